package locks

import (
	"math"
	"slices"
	"strings"
	"testing"

	"odyssey/name"
)

func mustTake(t *testing.T, what string, x *Table, inst int, keys ...string) {
	t.Helper()
	if key, is := x.Take(inst, keys); key != "" || !is {
		t.Errorf("%s: Take(%d, %q) = %q, %t, want true", what, inst, keys, key, is)
	}
}

// mustNotTake wants the key that another one has; the empty text, if what was asked may not be.
func mustNotTake(t *testing.T, what string, x *Table, want string, inst int, keys ...string) {
	t.Helper()
	if key, is := x.Take(inst, keys); key != want || is {
		t.Errorf("%s: Take(%d, %q) = %q, %t, want %q, false", what, inst, keys, key, is, want)
	}
}

func mustDrop(t *testing.T, what string, x *Table, inst, want int) {
	t.Helper()
	if n := x.Drop(inst); n != want {
		t.Errorf("%s: Drop(%d) = %d, want %d", what, inst, n, want)
	}
}

// mustHold asks twice: Held and Holder change nothing.
func mustHold(t *testing.T, what string, x *Table, inst int, want ...string) {
	t.Helper()
	for range 2 {
		if keys := x.Held(inst); !slices.Equal(keys, want) {
			t.Errorf("%s: Held(%d) = %q, want %q", what, inst, keys, want)
		}
		for _, key := range want {
			if holder := x.Holder(key); holder != inst {
				t.Errorf("%s: Holder(%q) = %d, want %d", what, key, holder, inst)
			}
		}
	}
}

func mustBeFree(t *testing.T, what string, x *Table, keys ...string) {
	t.Helper()
	for _, key := range keys {
		if holder := x.Holder(key); holder != 0 {
			t.Errorf("%s: Holder(%q) = %d, want 0", what, key, holder)
		}
	}
}

// noNames are texts that no key may be.
func noNames() []string {
	return []string{"", "A", "1a", "-a", "a b", "a_b", "ñ", "\xff", "a\xff", "abcdefghi", " a", "a\x00", "Ä", "\ufffd", strings.Repeat("a", 100)}
}

func TestExamples(t *testing.T) {
	x := New()
	mustTake(t, "K2", x, 1, "b", "a")
	mustNotTake(t, "K2", x, "a", 2, "c", "a", "b")
	mustTake(t, "K2", x, 2, "c")
	mustHold(t, "K4", x, 1, "a", "b")
	mustHold(t, "K4", x, 2, "c")
	mustBeFree(t, "K4", x, "d", "")
	mustTake(t, "K2", x, 1, "a", "d", "d")
	mustDrop(t, "K3", x, 1, 3)
	mustDrop(t, "K3", x, 1, 0)
	mustTake(t, "K2", x, 2, "a")
	mustNotTake(t, "K2", x, "", 0, "a")
	mustNotTake(t, "K2", x, "", 1, "A")
	mustTake(t, "K2", x, 1)
	mustHold(t, "K4", x, 2, "a", "c")
}

func TestNew(t *testing.T) {
	x := New()
	mustBeFree(t, "K1", x, append(noNames(), "a", "room", "ω")...)
	for _, inst := range []int{math.MinInt, -1, 0, 1, 2, math.MaxInt} {
		mustHold(t, "K1", x, inst)
		mustDrop(t, "K1", x, inst, 0)
	}
}

func TestWrongInstances(t *testing.T) {
	x := New()
	mustTake(t, "K2", x, 1, "a")
	for _, inst := range []int{math.MinInt, -1 << 32, -60, -1, 0} {
		mustNotTake(t, "K2", x, "", inst)
		mustNotTake(t, "K2", x, "", inst, "b")
		mustNotTake(t, "K2", x, "", inst, "b", "c", "b")
		// That it is below 1 comes ahead of what another one has.
		mustNotTake(t, "K2", x, "", inst, "a")
		mustNotTake(t, "K2", x, "", inst, "", "A")
		mustHold(t, "K4", x, inst)
		mustDrop(t, "K3", x, inst, 0)
	}
	mustHold(t, "P16.2", x, 1, "a")
	mustBeFree(t, "P16.2", x, "b", "c")
}

func TestGreatInstances(t *testing.T) {
	x := New()
	insts := []int{1, 2, 60, 61, 1 << 32, 1<<32 + 1, math.MaxInt}
	for i, inst := range insts {
		mustTake(t, "K2", x, inst, string(rune('a'+i)))
	}
	for i, inst := range insts {
		mustHold(t, "K4", x, inst, string(rune('a'+i)))
		mustDrop(t, "K3", x, inst, 1)
		mustHold(t, "K3", x, inst)
	}
}

func TestKeysThatAreNoNames(t *testing.T) {
	for _, wrong := range noNames() {
		x := New()
		mustTake(t, "K2", x, 1, "a")
		mustTake(t, "K2", x, 2, "b")
		for _, keys := range [][]string{
			{wrong}, {wrong, "c"}, {"c", wrong}, {"c", "d", wrong}, {"c", wrong, "d"}, {wrong, wrong}, {"a", wrong}, {"c", "a", wrong},
			// That it is no name comes ahead of what another one has, wherever it stands.
			{"b", wrong}, {wrong, "b"}, {"a", "b", "c", wrong},
		} {
			mustNotTake(t, "K2", x, "", 1, keys...)
			mustHold(t, "P16.2", x, 1, "a")
			mustHold(t, "P16.2", x, 2, "b")
			mustBeFree(t, "P16.2", x, "c", "d", wrong)
		}
		mustDrop(t, "K3", x, 1, 1)
	}
}

func TestNamesOfAllKinds(t *testing.T) {
	names := []string{"a", "z", "zug-1", "ärger", "λ2", "straße", "ααααωωωω", "a-", "a--", "abcdefgh", "ßßßßßßßß"}
	for _, key := range names {
		x := New()
		mustTake(t, "K2", x, 3, key)
		mustHold(t, "K4", x, 3, key)
		mustNotTake(t, "K2", x, key, 4, key)
		mustDrop(t, "K3", x, 3, 1)
		mustTake(t, "K2", x, 4, key)
	}
	x := New()
	mustTake(t, "K2", x, 3, names...)
	mustDrop(t, "K3", x, 3, len(names))
}

// TestFirstInTheOrderOfKeys: not the least one, and not the one that was taken first.
func TestFirstInTheOrderOfKeys(t *testing.T) {
	x := New()
	mustTake(t, "K2", x, 1, "d", "b")
	mustTake(t, "K2", x, 2, "c")
	mustTake(t, "K2", x, 3, "a")
	keys := []string{"a", "b", "c", "d", "e"}
	for inst := 1; inst <= 4; inst++ {
		for _, first := range keys {
			for _, second := range keys {
				asked := []string{"e", first, "f", second, first}
				want := slices.IndexFunc(asked, func(key string) bool { return x.Holder(key) != 0 && x.Holder(key) != inst })
				if want >= 0 {
					mustNotTake(t, "K2", x, asked[want], inst, asked...)
					mustBeFree(t, "P16.2", x, "e", "f")
				}
			}
		}
	}
	mustHold(t, "P16.2", x, 1, "b", "d")
	mustHold(t, "P16.2", x, 2, "c")
	mustHold(t, "P16.2", x, 3, "a")
}

func TestWhatItHasAlready(t *testing.T) {
	x := New()
	mustTake(t, "K2", x, 5, "a", "b")
	mustTake(t, "K2", x, 6, "c")
	mustTake(t, "K2", x, 5, "b")
	mustTake(t, "K2", x, 5, "b", "a", "b")
	mustHold(t, "K2", x, 5, "a", "b")
	mustNotTake(t, "K2", x, "c", 5, "a", "d", "c")
	mustHold(t, "P16.2", x, 5, "a", "b")
	mustTake(t, "K2", x, 5, "d", "a", "d", "d")
	mustHold(t, "P16.2", x, 5, "a", "b", "d")
	mustDrop(t, "K3", x, 5, 3)
	mustHold(t, "P16.4", x, 6, "c")
}

func TestNoKeys(t *testing.T) {
	x := New()
	if key, is := x.Take(1, nil); key != "" || !is {
		t.Errorf("K2: Take(1, nil) = %q, %t", key, is)
	}
	if key, is := x.Take(1, []string{}); key != "" || !is {
		t.Errorf("K2: Take of an empty list = %q, %t", key, is)
	}
	mustHold(t, "K2", x, 1)
	mustTake(t, "K2", x, 2, "a")
	mustTake(t, "K2", x, 1)
	mustTake(t, "K2", x, 2)
	mustHold(t, "K2", x, 2, "a")
	mustDrop(t, "K3", x, 1, 0)
}

// TestRising: by the runes, in which a letter of two bytes may be less than another one, whatever the order of the taking.
func TestRising(t *testing.T) {
	want := []string{"a", "a-", "a0", "a1", "aa", "ab", "b", "b-9", "z", "zz", "ß", "ä", "ö", "ü", "α", "ς", "σ", "ω", "ω-", "ωω"}
	for i := range want {
		if i > 0 && name.Compare(want[i-1], want[i]) != -1 {
			t.Fatalf("%q is not less than %q", want[i-1], want[i])
		}
	}
	m := made(16)
	for range 200 {
		x, left := New(), slices.Clone(want)
		for len(left) > 0 {
			i := m.below(len(left))
			mustTake(t, "K2", x, 7, left[i])
			left = slices.Delete(left, i, i+1)
		}
		mustTake(t, "K2", x, 8, "bb", "aaa")
		mustHold(t, "K4", x, 7, want...)
		mustHold(t, "K4", x, 8, "aaa", "bb")
	}
}

func TestDrop(t *testing.T) {
	x := New()
	mustTake(t, "K2", x, 1, "a", "b", "c")
	mustTake(t, "K2", x, 2, "d", "e")
	for _, inst := range []int{math.MinInt, -1, 0, 3, math.MaxInt} {
		mustDrop(t, "K3", x, inst, 0)
	}
	mustHold(t, "P16.4", x, 1, "a", "b", "c")
	mustHold(t, "P16.4", x, 2, "d", "e")
	mustDrop(t, "K3", x, 1, 3)
	mustHold(t, "K3", x, 1)
	mustBeFree(t, "K3", x, "a", "b", "c")
	mustHold(t, "P16.4", x, 2, "d", "e")
	mustTake(t, "K3", x, 2, "a")
	mustTake(t, "K3", x, 3, "b")
	mustNotTake(t, "K2", x, "a", 1, "c", "a")
	mustDrop(t, "K3", x, 2, 3)
	mustDrop(t, "K3", x, 3, 1)
	mustBeFree(t, "K3", x, "a", "b", "c", "d", "e")
}

// TestManyKeys: more than a map has room for at its beginning.
func TestManyKeys(t *testing.T) {
	x := New()
	var keys []string
	for i := range 26 * 26 * 10 {
		keys = append(keys, string([]byte{'a' + byte(i/260), 'a' + byte(i/10%26), '0' + byte(i%10)}))
	}
	for i, key := range keys {
		mustTake(t, "K2", x, 1+i%3, key)
	}
	for inst := 1; inst <= 3; inst++ {
		var want []string
		for i := inst - 1; i < len(keys); i += 3 {
			want = append(want, keys[i])
		}
		mustHold(t, "K4", x, inst, want...)
		mustDrop(t, "K3", x, inst, len(want))
		mustBeFree(t, "K3", x, want...)
	}
	mustTake(t, "K2", x, 9, append(slices.Clone(keys), keys...)...)
	mustDrop(t, "K3", x, 9, len(keys))
}

// TestHandedInIsNotKept: R5 of what Take is given, with room behind the list.
func TestHandedInIsNotKept(t *testing.T) {
	all := []string{"b", "a", "spare"}
	x := New()
	mustTake(t, "K2", x, 1, all[:2]...)
	mustNotTake(t, "K2", x, "b", 2, all[:2]...)
	if !slices.Equal(all, []string{"b", "a", "spare"}) {
		t.Errorf("R5: Take changed what it was given: %q", all)
	}
	all[0], all[1] = "c", "d"
	mustHold(t, "R5", x, 1, "a", "b")
	mustBeFree(t, "R5", x, "c", "d", "spare")
	mustDrop(t, "R5", x, 1, 2)
}

// TestAnswersAreNew: R5 of what Held answers, its spare room too.
func TestAnswersAreNew(t *testing.T) {
	x := New()
	mustTake(t, "K2", x, 1, "a", "b", "c")
	one, two := x.Held(1), x.Held(1)
	for i := range one[:cap(one)] {
		one[:cap(one)][i] = "spoilt"
	}
	if !slices.Equal(two, []string{"a", "b", "c"}) {
		t.Errorf("R5: one answer of Held changed another one: %q", two)
	}
	mustHold(t, "R5", x, 1, "a", "b", "c")
	mustBeFree(t, "R5", x, "spoilt")
	mustDrop(t, "K3", x, 1, 3)
	if !slices.Equal(two, []string{"a", "b", "c"}) {
		t.Errorf("R5: Drop changed what Held had told: %q", two)
	}
}

// TestObjects: R5: tables know nothing of one another.
func TestObjects(t *testing.T) {
	a, b := New(), New()
	mustTake(t, "K2", a, 1, "a")
	mustBeFree(t, "R5", b, "a")
	mustTake(t, "R5", b, 2, "a")
	mustDrop(t, "K3", b, 1, 0)
	mustHold(t, "R5", a, 1, "a")
	mustDrop(t, "K3", b, 2, 1)
	mustHold(t, "R5", a, 1, "a")
}
