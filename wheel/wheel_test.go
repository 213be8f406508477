package wheel

import (
	"cmp"
	"math"
	"slices"
	"testing"

	"odyssey/api"
)

// made is a row of numbers that follow a fixed rule.
type made uint64

func (m *made) below(n int) int {
	*m = *m*6364136223846793005 + 1442695040888963407
	return int(uint64(*m) >> 33 % uint64(n))
}

// slow is a wheel by its definition: of each id its time.
type slow map[int]int

func (s slow) set(id, at int) api.Errno {
	if id < 0 || at < 0 || at > 1073741824 {
		return api.ErrArg
	}
	if _, is := s[id]; !is && len(s) == 200 {
		return api.ErrLong
	}
	s[id] = at
	return api.OK
}

func (s slow) stop(id int) bool {
	_, is := s[id]
	delete(s, id)
	return is
}

func (s slow) due(now int) []int {
	var ids []int
	for id, at := range s {
		if at <= now {
			ids = append(ids, id)
		}
	}
	slices.SortFunc(ids, func(a, b int) int { return cmp.Or(cmp.Compare(s[a], s[b]), cmp.Compare(a, b)) })
	for _, id := range ids {
		delete(s, id)
	}
	return ids
}

func (s slow) next() (int, bool) {
	least, is := 0, false
	for _, at := range s {
		if !is || at < least {
			least, is = at, true
		}
	}
	return least, is
}

func mustSet(t *testing.T, w *Wheel, id, at int, want api.Errno) {
	t.Helper()
	if err := w.Set(id, at); err != want {
		t.Errorf("W1: Set(%d, %d) = %d, want %d", id, at, err, want)
	}
}

func mustStop(t *testing.T, w *Wheel, id int, want bool) {
	t.Helper()
	if got := w.Stop(id); got != want {
		t.Errorf("W2: Stop(%d) = %t, want %t", id, got, want)
	}
}

func mustDue(t *testing.T, promise string, w *Wheel, now int, want ...int) {
	t.Helper()
	if got := w.Due(now); !slices.Equal(got, want) {
		t.Errorf("%s: Due(%d) = %v, want %v", promise, now, got, want)
	}
}

// mustStand asks twice: Next and Len change nothing.
func mustStand(t *testing.T, w *Wheel, next int, is bool, count int) {
	t.Helper()
	for range 2 {
		if got, found := w.Next(); got != next || found != is {
			t.Errorf("W4: Next = %d, %t, want %d, %t", got, found, next, is)
		}
		if got := w.Len(); got != count {
			t.Errorf("W4: Len = %d, want %d", got, count)
		}
	}
}

// full is a wheel of the ids 0 to 199, each at the time that the rule says.
func full(t *testing.T, rule func(id int) int) *Wheel {
	t.Helper()
	w := New()
	for id := range api.MaxTimers {
		mustSet(t, w, id, rule(id), api.OK)
	}
	return w
}

func TestNew(t *testing.T) {
	w := New()
	mustStand(t, w, 0, false, 0)
	mustDue(t, "W1", w, math.MaxInt)
	mustStop(t, w, 0, false)
}

func TestExamples(t *testing.T) {
	w := New()
	mustSet(t, w, 1, 5, api.OK)
	mustSet(t, w, 2, 3, api.OK)
	mustSet(t, w, 0, 5, api.OK)
	mustStand(t, w, 3, true, 3)
	mustDue(t, "W3", w, 4, 2)
	mustDue(t, "W3", w, 4)
	mustSet(t, w, 1, 9, api.OK)
	mustDue(t, "W3", w, 5, 0)
	mustStop(t, w, 1, true)
	mustStop(t, w, 1, false)
	mustStand(t, w, 0, false, 0)
}

func TestSetEdges(t *testing.T) {
	w := New()
	mustSet(t, w, 0, 0, api.OK)
	mustSet(t, w, 1, 1073741824, api.OK)
	mustSet(t, w, math.MaxInt, 7, api.OK)
	mustStand(t, w, 0, true, 3)
	mustDue(t, "W3", w, 1073741824, 0, math.MaxInt, 1)
}

func TestSetRefused(t *testing.T) {
	w := New()
	mustSet(t, w, 3, 5, api.OK)
	for _, c := range [][2]int{
		{-1, 0}, {-1, 5}, {math.MinInt, 5}, {0, -1}, {3, -1}, {0, math.MinInt}, {0, 1073741825}, {3, 1073741825}, {0, math.MaxInt}, {-1, -1}, {-1, 1073741825},
	} {
		mustSet(t, w, c[0], c[1], api.ErrArg)
		mustStand(t, w, 5, true, 1)
	}
	mustDue(t, "W1", w, math.MaxInt, 3)
}

func TestTwoHundredAndOneMore(t *testing.T) {
	w := full(t, func(id int) int { return 1000 + id })
	mustSet(t, w, 200, 0, api.ErrLong)
	mustSet(t, w, math.MaxInt, 5000, api.ErrLong)
	mustStand(t, w, 1000, true, 200)
	// What may not be is refused first, and an id that is there may always be set.
	mustSet(t, w, 200, -1, api.ErrArg)
	mustSet(t, w, -1, 0, api.ErrArg)
	mustSet(t, w, 7, 0, api.OK)
	mustStand(t, w, 0, true, 200)
	mustStop(t, w, 0, true)
	mustSet(t, w, 200, 1, api.OK)
	mustSet(t, w, 0, 1, api.ErrLong)
	mustDue(t, "W3", w, 1002, 7, 200, 1, 2)
	mustStand(t, w, 1003, true, 196)
	for id := 300; id < 304; id++ {
		mustSet(t, w, id, 9, api.OK)
	}
	mustSet(t, w, 304, 9, api.ErrLong)
}

func TestSetAnew(t *testing.T) {
	w := New()
	for _, at := range []int{5, 9, 5, 2, 2} {
		mustSet(t, w, 4, at, api.OK)
		mustStand(t, w, at, true, 1)
	}
	mustSet(t, w, 4, 8, api.OK)
	mustDue(t, "P8.1", w, 7)
	mustDue(t, "P8.1", w, 8, 4)
	mustDue(t, "P8.1", w, math.MaxInt)
	mustSet(t, w, 4, 0, api.OK)
	mustDue(t, "P8.1", w, 0, 4)
}

func TestStop(t *testing.T) {
	w := full(t, func(id int) int { return id % 10 })
	for _, id := range []int{-1, 200, math.MinInt, math.MaxInt} {
		mustStop(t, w, id, false)
	}
	mustStand(t, w, 0, true, 200)
	for id := 0; id < 200; id += 2 {
		mustStop(t, w, id, true)
		mustStop(t, w, id, false)
	}
	mustStand(t, w, 1, true, 100)
	var want []int
	for id := 1; id < 200; id += 10 {
		want = append(want, id)
	}
	mustDue(t, "W2", w, 2, want...)
	mustStop(t, w, 1, false)
	mustStop(t, w, 3, true)
}

func TestDueOfAnyNumber(t *testing.T) {
	for now, want := range map[int][]int{
		math.MinInt: nil, -1: nil, 0: {9, 12}, 1: {9, 12}, 2: {9, 12, 0, 3, 8}, 1073741823: {9, 12, 0, 3, 8},
		1073741824: {9, 12, 0, 3, 8, 1}, 1073741825: {9, 12, 0, 3, 8, 1}, math.MaxInt: {9, 12, 0, 3, 8, 1},
	} {
		w := New()
		for _, c := range [][2]int{{3, 2}, {12, 0}, {1, 1073741824}, {0, 2}, {8, 2}, {9, 0}} {
			mustSet(t, w, c[0], c[1], api.OK)
		}
		mustDue(t, "W3", w, now, want...)
		mustDue(t, "W3", w, now)
		if got := w.Len(); got != 6-len(want) {
			t.Errorf("W3: behind Due(%d) there are %d timers, want %d", now, got, 6-len(want))
		}
		if next, is := w.Next(); is && next <= now || is != (len(want) < 6) {
			t.Errorf("P8.2: behind Due(%d) Next is %d, %t", now, next, is)
		}
	}
}

func TestTimersOfOneTime(t *testing.T) {
	w := full(t, func(id int) int { return 6 })
	ids := make([]int, 200)
	for id := range ids {
		ids[id] = id
	}
	mustDue(t, "W3", w, 5)
	mustDue(t, "W3", w, 6, ids...)
	mustStand(t, w, 0, false, 0)
}

func TestAnswersAreNewMemory(t *testing.T) {
	w := full(t, func(id int) int { return id })
	one := w.Due(2)
	one[0] = 77
	one = append(one, 88)
	two := w.Due(5)
	if !slices.Equal(two, []int{3, 4, 5}) || !slices.Equal(one, []int{77, 1, 2, 88}) {
		t.Errorf("R5: answers share memory: %v, %v", one, two)
	}
	mustStand(t, w, 6, true, 194)
}

func TestWheelsKnowNothingOfOneAnother(t *testing.T) {
	a, b := New(), New()
	mustSet(t, a, 1, 5, api.OK)
	mustStand(t, b, 0, false, 0)
	mustStop(t, b, 1, false)
	mustSet(t, b, 1, 6, api.OK)
	mustDue(t, "R5", b, 6, 1)
	mustStand(t, a, 5, true, 1)
}

// mixed is a timer with times and ids that fall together now and then.
func mixed(m *made) (int, int) {
	id := m.below([]int{3, 30, 260}[m.below(3)])
	at := m.below([]int{4, 50, 2000}[m.below(3)])
	switch m.below(40) {
	case 0:
		id = -1 - id
	case 1:
		at = -1 - at
	case 2:
		at += 1073741824
	case 3:
		at = 1073741824 - at
	}
	return id, at
}

func TestAnyCalls(t *testing.T) {
	for seed := range 60 {
		m := made(seed)
		w, s := New(), slow{}
		for range 1500 {
			id, at := mixed(&m)
			switch m.below(12) {
			case 0:
				mustStop(t, w, id, s.stop(id))
			case 1:
				if m.below(6) == 0 {
					mustDue(t, "W3", w, at, s.due(at)...)
				}
			default:
				mustSet(t, w, id, at, s.set(id, at))
			}
			next, is := s.next()
			mustStand(t, w, next, is, len(s))
			if t.Failed() {
				t.Fatalf("the row of calls of %d", seed)
			}
		}
	}
}

func TestToldOnce(t *testing.T) {
	m := made(5)
	w := New()
	times := map[int]int{}
	for range 190 {
		id, at := m.below(1000), m.below(300)
		mustSet(t, w, id, at, api.OK)
		times[id] = at
	}
	for id := range 1000 {
		if id%7 == 0 {
			w.Stop(id)
			delete(times, id)
		}
	}
	for now := range 301 {
		last := 0
		for _, id := range w.Due(now) {
			at, waits := times[id]
			if !waits || at != now {
				t.Fatalf("P8.1: Due(%d) tells %d, which is set to %d, %t", now, id, at, waits)
			}
			if at < last {
				t.Fatalf("P8.2: Due(%d) tells %d behind one of %d", now, at, last)
			}
			last = at
			delete(times, id)
		}
		if next, is := w.Next(); is && next <= now {
			t.Fatalf("P8.2: behind Due(%d) Next is %d", now, next)
		}
	}
	if len(times) > 0 || w.Len() > 0 {
		t.Errorf("P8.1: never told: %v", times)
	}
}

func TestInPartsAndInAnyOrder(t *testing.T) {
	for seed := range 200 {
		m := made(seed)
		whole, parts, turned := New(), New(), New()
		times := slow{}
		for count := 1 + m.below(200); len(times) < count; {
			times[m.below(1000)] = m.below([]int{3, 40, 1000}[m.below(3)])
		}
		var ids []int
		for id := range 1000 {
			if at, is := times[id]; is {
				whole.Set(id, at)
				parts.Set(id, at)
				ids = append(ids, id)
			}
		}
		for len(ids) > 0 {
			i := m.below(len(ids))
			turned.Set(ids[i], times[ids[i]])
			ids = slices.Delete(ids, i, i+1)
		}
		b := m.below(1001)
		a := m.below(b + 1)
		want := whole.Due(b)
		if got := append(parts.Due(a), parts.Due(b)...); !slices.Equal(got, want) {
			t.Fatalf("P8.3: Due(%d), Due(%d) = %v, want %v", a, b, got, want)
		}
		if got := turned.Due(b); !slices.Equal(got, want) {
			t.Fatalf("P8.4: Due(%d) = %v, want %v", b, got, want)
		}
		if rest := whole.Due(math.MaxInt); !slices.Equal(parts.Due(math.MaxInt), rest) || !slices.Equal(turned.Due(math.MaxInt), rest) {
			t.Fatalf("P8.3, P8.4: what is left differs")
		}
	}
}
