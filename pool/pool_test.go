package pool

import (
	"math"
	"slices"
	"strconv"
	"strings"
	"testing"

	"odyssey/api"
)

// made is a row of numbers that follow a fixed rule.
type made uint64

func (m *made) below(n int) int {
	*m = *m*6364136223846793005 + 1442695040888963407
	return int(uint64(*m) >> 33 % uint64(n))
}

// slow is a pool by its definition. It makes each list anew, so that nothing can be shared.
type slow struct {
	room  int
	texts []string
}

func (s *slow) send(text string) api.Errno {
	if len(text) > 2000 {
		return api.ErrLong
	}
	if len(s.texts) == s.room {
		return api.ErrPoolFull
	}
	s.texts = slices.Concat(s.texts, []string{text})
	return api.OK
}

func (s *slow) take(i int) (string, api.Errno) {
	for number, text := range s.texts {
		if number == i {
			s.texts = slices.Concat(s.texts[:i], s.texts[i+1:])
			return text, api.OK
		}
	}
	return "", api.ErrPoolNone
}

func (s *slow) double(i int) api.Errno {
	for number, text := range s.texts {
		if number == i {
			return s.send(text)
		}
	}
	return api.ErrPoolNone
}

func mustNew(t *testing.T, room int) *Pool {
	t.Helper()
	p, err := New(room)
	if p == nil || err != api.OK {
		t.Fatalf("P9.1: New(%d) = %v, %d, want a pool", room, p, err)
	}
	return p
}

func mustSend(t *testing.T, p *Pool, s string, want api.Errno) {
	t.Helper()
	if err := p.Send(s); err != want {
		t.Errorf("P9.2: Send of %d bytes (%.8q) = %d, want %d", len(s), s, err, want)
	}
}

func mustTake(t *testing.T, p *Pool, i int, want string, wantErr api.Errno) {
	t.Helper()
	if s, err := p.Take(i); s != want || err != wantErr {
		t.Errorf("P9.3: Take(%d) = %.8q, %d, want %.8q, %d", i, s, err, want, wantErr)
	}
}

func mustDouble(t *testing.T, p *Pool, i int, want api.Errno) {
	t.Helper()
	if err := p.Double(i); err != want {
		t.Errorf("P9.4: Double(%d) = %d, want %d", i, err, want)
	}
}

// mustHold asks twice: All and Len change nothing.
func mustHold(t *testing.T, p *Pool, want ...string) {
	t.Helper()
	for range 2 {
		if got := p.All(); !slices.Equal(got, want) {
			t.Errorf("P9.5: All = %.8q, want %.8q", got, want)
		}
		if got := p.Len(); got != len(want) {
			t.Errorf("P9.5: Len = %d, want %d", got, len(want))
		}
	}
}

// holding is a pool of a room that holds these texts.
func holding(t *testing.T, room int, texts ...string) *Pool {
	t.Helper()
	p := mustNew(t, room)
	for _, s := range texts {
		mustSend(t, p, s, api.OK)
	}
	return p
}

// numbers are the texts `0`, `1`, and so on.
func numbers(count int) []string {
	var texts []string
	for i := range count {
		texts = append(texts, strconv.Itoa(i))
	}
	return texts
}

func TestNew(t *testing.T) {
	for _, room := range []int{1, 2, 100, 199, 200} {
		mustHold(t, mustNew(t, room))
	}
	for _, room := range []int{math.MinInt, -200, -1, 0, 201, 202, 1 << 40, math.MaxInt} {
		if p, err := New(room); p != nil || err != api.ErrArg {
			t.Errorf("P9.1: New(%d) = %v, %d, want nil, %d", room, p, err, api.ErrArg)
		}
	}
}

func TestExample(t *testing.T) {
	p := mustNew(t, 2)
	mustSend(t, p, "a", api.OK)
	mustSend(t, p, "b", api.OK)
	mustSend(t, p, "c", api.ErrPoolFull)
	mustTake(t, p, 0, "a", api.OK)
	mustDouble(t, p, 0, api.OK)
	mustHold(t, p, "b", "b")
	mustDouble(t, p, 0, api.ErrPoolFull)
	mustTake(t, p, 2, "", api.ErrPoolNone)
	mustHold(t, p, "b", "b")
}

func TestRoom(t *testing.T) {
	for _, room := range []int{1, 2, 3, 199, 200} {
		p := holding(t, room, numbers(room)...)
		mustHold(t, p, numbers(room)...)
		mustSend(t, p, "x", api.ErrPoolFull)
		mustDouble(t, p, room-1, api.ErrPoolFull)
		mustHold(t, p, numbers(room)...)
		mustTake(t, p, room-1, strconv.Itoa(room-1), api.OK)
		mustSend(t, p, "x", api.OK)
		mustSend(t, p, "y", api.ErrPoolFull)
		mustHold(t, p, append(numbers(room-1), "x")...)
	}
}

func TestSendLengths(t *testing.T) {
	p := mustNew(t, 200)
	var texts []string
	for _, n := range []int{0, 1, 1999, 2000} {
		texts = append(texts, strings.Repeat("z", n))
		mustSend(t, p, texts[len(texts)-1], api.OK)
	}
	for _, n := range []int{2001, 4000, 100000} {
		mustSend(t, p, strings.Repeat("z", n), api.ErrLong)
	}
	// 1001 runes, but 2002 bytes.
	mustSend(t, p, strings.Repeat("ä", 1001), api.ErrLong)
	mustHold(t, p, texts...)
}

func TestSendLongAheadOfFull(t *testing.T) {
	p := holding(t, 1, "a")
	mustSend(t, p, strings.Repeat("z", 2001), api.ErrLong)
	mustSend(t, p, strings.Repeat("z", 2000), api.ErrPoolFull)
	mustHold(t, p, "a")
}

func TestAnyBytes(t *testing.T) {
	texts := []string{"", "\x00", "\xff\xfe", "ä\xc3", " ", "L\x01\x00\x01\x00\x01\x00"}
	p := holding(t, 10, texts...)
	mustDouble(t, p, 2, api.OK)
	mustHold(t, p, append(slices.Clone(texts), "\xff\xfe")...)
	mustTake(t, p, 0, "", api.OK)
	mustTake(t, p, 0, "\x00", api.OK)
	mustHold(t, p, append(slices.Clone(texts[2:]), "\xff\xfe")...)
}

func TestWrongNumbers(t *testing.T) {
	for _, count := range []int{0, 1, 2, 3, 199, 200} {
		for _, room := range []int{count, 200} {
			if room == 0 {
				continue
			}
			p := holding(t, room, numbers(count)...)
			for _, i := range []int{math.MinInt, -1 << 32, -count - 1, -1, count, count + 1, 1 << 32, math.MaxInt} {
				mustTake(t, p, i, "", api.ErrPoolNone)
				// Of a full pool too: that there is no such text comes first.
				mustDouble(t, p, i, api.ErrPoolNone)
			}
			mustHold(t, p, numbers(count)...)
		}
	}
}

func TestTakeEach(t *testing.T) {
	for _, count := range []int{1, 2, 3, 200} {
		for i := range count {
			p := holding(t, count, numbers(count)...)
			mustTake(t, p, i, strconv.Itoa(i), api.OK)
			mustHold(t, p, slices.Concat(numbers(count)[:i], numbers(count)[i+1:])...)
		}
	}
}

func TestTakeAll(t *testing.T) {
	p := holding(t, 200, numbers(200)...)
	for _, s := range numbers(200) {
		mustTake(t, p, 0, s, api.OK)
	}
	mustHold(t, p)
	mustTake(t, p, 0, "", api.ErrPoolNone)
	mustDouble(t, p, 0, api.ErrPoolNone)
	mustSend(t, p, "x", api.OK)
	mustHold(t, p, "x")
}

func TestDoubleEach(t *testing.T) {
	for _, count := range []int{1, 2, 3, 199} {
		for i := range count {
			p := holding(t, count+1, numbers(count)...)
			mustDouble(t, p, i, api.OK)
			mustHold(t, p, append(numbers(count), strconv.Itoa(i))...)
			mustDouble(t, p, i, api.ErrPoolFull)
			mustHold(t, p, append(numbers(count), strconv.Itoa(i))...)
		}
	}
}

func TestDoubleOfDouble(t *testing.T) {
	p := holding(t, 5, "a", "b")
	mustDouble(t, p, 0, api.OK)
	mustDouble(t, p, 2, api.OK)
	mustDouble(t, p, 1, api.OK)
	mustHold(t, p, "a", "b", "a", "a", "b")
	mustTake(t, p, 2, "a", api.OK)
	mustHold(t, p, "a", "b", "a", "b")
}

func TestAsOftenAsSent(t *testing.T) {
	p := mustNew(t, 200)
	for range 3 {
		mustSend(t, p, "a", api.OK)
		mustSend(t, p, "b", api.OK)
	}
	mustDouble(t, p, 0, api.OK)
	mustDouble(t, p, 6, api.OK)
	taken := map[string]int{}
	for p.Len() > 0 {
		s, err := p.Take(p.Len() / 2)
		if err != api.OK {
			t.Fatalf("P9.6: Take of one that is there = %d", err)
		}
		taken[s]++
	}
	if len(taken) != 2 || taken["a"] != 5 || taken["b"] != 3 {
		t.Errorf("P9.6: taken %v, want a 5 times and b 3 times", taken)
	}
}

func TestAnswersAreNew(t *testing.T) {
	p := holding(t, 4, "a", "b", "c")
	first := p.All()
	second := p.All()
	for i := range first {
		first[i] = "x"
	}
	_ = append(first, "x")
	mustHold(t, p, "a", "b", "c")
	if !slices.Equal(second, []string{"a", "b", "c"}) {
		t.Errorf("R5: one answer of All changed another one: %q", second)
	}
	mustSend(t, p, "d", api.OK)
	_ = append(first, "x")
	_ = append(first[:3:cap(first)], "x")
	mustHold(t, p, "a", "b", "c", "d")
	mustTake(t, p, 0, "a", api.OK)
	if !slices.Equal(second, []string{"a", "b", "c"}) {
		t.Errorf("R5: Take changed what All had told: %q", second)
	}
}

func TestPoolsAreApart(t *testing.T) {
	a, b := holding(t, 3, "a", "b"), holding(t, 2, "c")
	mustTake(t, a, 0, "a", api.OK)
	mustHold(t, b, "c")
	mustDouble(t, b, 0, api.OK)
	mustDouble(t, b, 0, api.ErrPoolFull)
	mustHold(t, a, "b")
}

// mustDo does one call on both, and holds their answers against each other.
func mustDo(t *testing.T, p *Pool, s *slow, what int, i int, text string) {
	t.Helper()
	switch what {
	case 0:
		mustSend(t, p, text, s.send(text))
	case 1:
		want, err := s.take(i)
		mustTake(t, p, i, want, err)
	case 2:
		mustDouble(t, p, i, s.double(i))
	}
	mustHold(t, p, s.texts...)
}

// Every row of five calls, each one of eight, on rooms of 1 to 3.
func TestShortRows(t *testing.T) {
	const calls, kinds = 5, 8
	rows := 1
	for range calls {
		rows *= kinds
	}
	for room := 1; room <= 3; room++ {
		for row := range rows {
			p, s := mustNew(t, room), &slow{room: room}
			left := row
			for range calls {
				call := left % kinds
				left /= kinds
				switch {
				case call < 2:
					mustDo(t, p, s, 0, 0, string(rune('a'+call)))
				case call < 5:
					mustDo(t, p, s, 1, call-2, "")
				default:
					mustDo(t, p, s, 2, call-5, "")
				}
			}
			if t.Failed() {
				t.Fatalf("row %o of room %d", row, room)
			}
		}
	}
}

func TestLongRows(t *testing.T) {
	m := made(9)
	for _, room := range []int{1, 2, 7, 50, 199, 200} {
		p, s := mustNew(t, room), &slow{room: room}
		for range 3000 {
			text := strings.Repeat(string(rune('a'+m.below(3))), m.below(4))
			if m.below(50) == 0 {
				text = strings.Repeat("z", 1999+m.below(3))
			}
			mustDo(t, p, s, m.below(3), m.below(len(s.texts)+3)-1, text)
			if m.below(400) == 0 {
				for len(s.texts) > 0 {
					mustDo(t, p, s, 1, m.below(len(s.texts)), "")
				}
			}
		}
	}
}

// What is taken was sent, and not more often than it was sent and doubled.
func TestNothingComesFromNowhere(t *testing.T) {
	m := made(96)
	p := mustNew(t, 20)
	owed := map[string]int{}
	for range 20000 {
		switch m.below(3) {
		case 0:
			text := strconv.Itoa(m.below(10))
			if p.Send(text) == api.OK {
				owed[text]++
			}
		case 1:
			if text, err := p.Take(m.below(22) - 1); err == api.OK {
				owed[text]--
				if owed[text] < 0 {
					t.Fatalf("P9.6: %q was taken more often than sent and doubled", text)
				}
			}
		case 2:
			i := m.below(22) - 1
			all := p.All()
			if p.Double(i) == api.OK {
				owed[all[i]]++
			}
		}
	}
	for _, text := range p.All() {
		owed[text]--
	}
	for text, n := range owed {
		if n != 0 {
			t.Errorf("P9.6: of %q %d are lost", text, n)
		}
	}
}

func TestRowOfOtherThings(t *testing.T) {
	r := row[[2]int]{}
	r.add([2]int{1, 2})
	r.add([2]int{3, 4})
	if got := r.take(0); got != [2]int{1, 2} || r.count() != 1 || !r.has(0) || r.has(1) {
		t.Errorf("P9.3: a row of pairs: took %v, left %v", got, r.all())
	}
}

// A text that was taken is not kept: the row has nothing of it in its spare room.
func TestTakenIsGone(t *testing.T) {
	p := holding(t, 8, "a", "b", "c", "d")
	mustTake(t, p, 1, "b", api.OK)
	mustTake(t, p, 2, "d", api.OK)
	for _, s := range p.texts.things[len(p.texts.things):cap(p.texts.things)] {
		if s != "" {
			t.Errorf("P9.3: %q is kept behind the row", s)
		}
	}
}
