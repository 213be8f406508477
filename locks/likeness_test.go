package locks

import (
	"slices"
	"testing"
)

// made is a row of numbers that follow a fixed rule.
type made uint64

func (m *made) below(n int) int {
	*m = *m*6364136223846793005 + 1442695040888963407
	return int(uint64(*m) >> 33 % uint64(n))
}

// fewKeys are the keys that the rows of calls ask for, rising, and what is no key.
var fewKeys = [...]string{"a", "b", "room", "z", "ä", "ω"}

const noKey = "Room"

// slow is a table by its definition: of each of the few keys who has it.
type slow [len(fewKeys)]int

func (s *slow) take(inst int, keys []string) (string, bool) {
	if inst < 1 || slices.Contains(keys, noKey) {
		return "", false
	}
	after := *s
	for _, key := range keys {
		i := slices.Index(fewKeys[:], key)
		if s[i] != 0 && s[i] != inst {
			return key, false
		}
		after[i] = inst
	}
	*s = after
	return "", true
}

func (s *slow) drop(inst int) int {
	count := len(s.held(inst))
	for i := range s {
		if s[i] == inst {
			s[i] = 0
		}
	}
	return count
}

func (s *slow) held(inst int) []string {
	var keys []string
	for i, holder := range s {
		if holder == inst && inst != 0 {
			keys = append(keys, fewKeys[i])
		}
	}
	return keys
}

// hold holds all that a table tells against its likeness, and P16.1 beside it.
func hold(t *testing.T, x *Table, s *slow) {
	t.Helper()
	told := map[string]int{}
	for inst := -1; inst <= 4; inst++ {
		keys := x.Held(inst)
		if want := s.held(inst); !slices.Equal(keys, want) {
			t.Fatalf("K4: Held(%d) = %q, want %q", inst, keys, want)
		}
		for _, key := range keys {
			if other, is := told[key]; is || x.Holder(key) != inst {
				t.Fatalf("P16.1: %q is told of %d and of %d; Holder tells %d", key, inst, other, x.Holder(key))
			}
			told[key] = inst
		}
	}
	for i, key := range fewKeys {
		if holder := x.Holder(key); holder != s[i] {
			t.Fatalf("K4: Holder(%q) = %d, want %d", key, holder, s[i])
		}
	}
	if holder := x.Holder(noKey); holder != 0 {
		t.Fatalf("K4: Holder(%q) = %d", noKey, holder)
	}
}

func holdTake(t *testing.T, x *Table, s *slow, inst int, keys []string) bool {
	t.Helper()
	key, is := x.Take(inst, keys)
	if want, may := s.take(inst, keys); key != want || is != may {
		t.Fatalf("K2: %v: Take(%d, %q) = %q, %t, want %q, %t", *s, inst, keys, key, is, want, may)
	}
	hold(t, x, s)
	return is
}

func holdDrop(t *testing.T, x *Table, s *slow, inst int) {
	t.Helper()
	if n, want := x.Drop(inst), s.drop(inst); n != want {
		t.Fatalf("K3: %v: Drop(%d) = %d, want %d", *s, inst, n, want)
	}
	hold(t, x, s)
}

// holdBack is P16.3: an instance that has none takes some keys and drops them.
func holdBack(t *testing.T, x *Table, s *slow, inst int, keys []string) {
	t.Helper()
	if len(x.Held(inst)) > 0 {
		return
	}
	before := *s
	if !holdTake(t, x, s, inst, keys) {
		return
	}
	unlike := slices.Compact(slices.Sorted(slices.Values(keys)))
	if n := x.Drop(inst); n != len(unlike) {
		t.Fatalf("P16.3: behind Take(%d, %q) Drop tells %d", inst, keys, n)
	}
	*s = before
	hold(t, x, s)
}

// TestEveryShortRow: all rows of five calls of nine.
func TestEveryShortRow(t *testing.T) {
	const rowLength = 5
	calls := []func(x *Table, s *slow){
		func(x *Table, s *slow) { holdTake(t, x, s, 1, []string{"a"}) },
		func(x *Table, s *slow) { holdTake(t, x, s, 1, []string{"z", "a"}) },
		func(x *Table, s *slow) { holdTake(t, x, s, 2, []string{"a", "b"}) },
		func(x *Table, s *slow) { holdTake(t, x, s, 2, []string{"b", "b"}) },
		func(x *Table, s *slow) { holdTake(t, x, s, 2, []string{"z", "b", "a"}) },
		func(x *Table, s *slow) { holdTake(t, x, s, 1, []string{"b", noKey}) },
		func(x *Table, s *slow) { holdDrop(t, x, s, 1) },
		func(x *Table, s *slow) { holdDrop(t, x, s, 2) },
		func(x *Table, s *slow) { holdBack(t, x, s, 3, []string{"z", "ä", "z"}) },
	}
	rows := 1
	for range rowLength {
		rows *= len(calls)
	}
	for row := range rows {
		x, s := New(), &slow{}
		for left, i := row, 0; i < rowLength; left, i = left/len(calls), i+1 {
			calls[left%len(calls)](x, s)
		}
	}
}

// keys are some of the few, some of them twice, and now and then one that is none.
func (m *made) keys() []string {
	var keys []string
	for range m.below(5) {
		keys = append(keys, fewKeys[m.below(len(fewKeys))])
	}
	if m.below(10) == 0 {
		keys = slices.Insert(keys, m.below(len(keys)+1), noKey)
	}
	return keys
}

func TestLongRows(t *testing.T) {
	m, taken, refused := made(161), 0, 0
	for range 300 {
		x, s := New(), &slow{}
		for range 200 {
			inst := m.below(6) - 1
			switch m.below(6) {
			case 0, 1:
				holdDrop(t, x, s, inst)
			case 2:
				holdBack(t, x, s, inst, m.keys())
			default:
				if holdTake(t, x, s, inst, m.keys()) {
					taken++
				} else {
					refused++
				}
			}
		}
	}
	if taken < 5000 || refused < 5000 {
		t.Errorf("taken %d times, refused %d times only", taken, refused)
	}
}

// TestAlike: R6: two tables with the same calls answer the same, in whatever order their maps are gone through.
func TestAlike(t *testing.T) {
	for seed := range 50 {
		m := made(seed)
		a, b := New(), New()
		for range 100 {
			inst, keys := 1+m.below(3), m.keys()
			keyA, isA := a.Take(inst, keys)
			keyB, isB := b.Take(inst, keys)
			if keyA != keyB || isA != isB || !slices.Equal(a.Held(inst), b.Held(inst)) {
				t.Fatalf("R6: Take(%d, %q) = %q, %t and %q, %t", inst, keys, keyA, isA, keyB, isB)
			}
			if m.below(4) == 0 && a.Drop(inst) != b.Drop(inst) {
				t.Fatalf("R6: Drop(%d)", inst)
			}
		}
	}
}
