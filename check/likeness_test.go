package check

import (
	"regexp"
	"slices"
	"testing"

	"odyssey/api"
)

// made is a row of numbers that follow a fixed rule.
type made uint64

func (m *made) below(n int) int {
	*m = *m*6364136223846793005 + 1442695040888963407
	return int(uint64(*m) >> 33 % uint64(n))
}

func (m *made) one(of ...string) string { return of[m.below(len(of))] }

var nameOnly = regexp.MustCompile(`^[a-zäöüß\x{3b1}-\x{3c9}][a-zäöüß\x{3b1}-\x{3c9}0-9-]{0,7}$`)

func slowOwner(key string) int {
	sum := 0
	for _, r := range []rune(key) {
		sum += int(r)
	}
	return sum % 4
}

// fault is one that was found: by its rule (1 to 6), of rule 2 by its place in the step, too.
type fault struct {
	rule, step, place int
	err               api.Errno
}

// slowCheck gathers all faults there are, and tells the one that the document names first.
func slowCheck(d api.Def) (int, api.Errno) {
	var faults []fault
	is := func(wrong bool, rule, step, place int, err api.Errno) {
		if wrong {
			faults = append(faults, fault{rule, step, place, err})
		}
	}
	n := len(d.Steps)
	is(!nameOnly.MatchString(d.Name), 1, -1, 0, api.ErrCheckName)
	is(n == 0 || n > 8, 1, -1, 1, api.ErrCheckSteps)
	if len(faults) == 0 {
		for i, s := range d.Steps {
			is(!nameOnly.MatchString(s.Name), 2, i, 0, api.ErrCheckName)
			for k := range i {
				is(d.Steps[k].Name == s.Name, 2, i, 1, api.ErrCheckTwice)
			}
			is(!slices.Contains([]int{1, 2, 3}, s.Kind), 2, i, 2, api.ErrCheckKind)
			is(!slices.Contains([]int{0, 1, 2, 3}, s.Part), 2, i, 3, api.ErrCheckPart)
			is(!slowKeys(s), 2, i, 4, api.ErrCheckKey)
			is(!slowNeeds(s.Needs, i, n), 2, i, 5, api.ErrCheckNeed)
		}
	}
	if len(faults) == 0 {
		slowTogether(d.Steps, is)
	}
	if len(faults) == 0 {
		return -1, api.OK
	}
	first := slices.MinFunc(faults, func(a, b fault) int {
		return slices.Compare([]int{a.rule, a.step, a.place}, []int{b.rule, b.step, b.place})
	})
	return first.step, first.err
}

func slowKeys(s api.Step) bool {
	good := len(s.Keys) <= 2
	for _, key := range s.Keys {
		good = good && nameOnly.MatchString(key) && slowOwner(key) == s.Part
	}
	// Names are texts of whole runes: bytes order them as runes do.
	return good && (len(s.Keys) < 2 || s.Keys[0] < s.Keys[1])
}

func slowNeeds(needs []int, self, n int) bool {
	seen := map[int]bool{}
	for _, need := range needs {
		if seen[need] || need < 0 || need >= n || need == self {
			return false
		}
		seen[need] = true
	}
	return slices.IsSorted(needs)
}

func slowTogether(steps []api.Step, is func(wrong bool, rule, step, place int, err api.Errno)) {
	pivots := 0
	taken := map[string]bool{}
	for i, s := range steps {
		if s.Kind == 2 {
			pivots++
			is(pivots == 2, 3, i, 0, api.ErrCheckPivot)
		}
		if s.Kind == 1 || s.Kind == 2 {
			for _, need := range s.Needs {
				is(steps[need].Kind != 1, 4, i, 0, api.ErrCheckOrder)
			}
			for _, key := range s.Keys {
				taken[key] = true
			}
		}
	}
	through := slowThrough(steps)
	for i, s := range steps {
		is(through[i][i], 5, i, 0, api.ErrCheckRing)
		for _, key := range s.Keys {
			is(s.Kind == 3 && !taken[key], 6, i, 0, api.ErrCheckKey)
		}
	}
}

// slowThrough tells which step needs which, directly or through others.
func slowThrough(steps []api.Step) [8][8]bool {
	var t [8][8]bool
	for i, s := range steps {
		for _, need := range s.Needs {
			t[i][need] = true
		}
	}
	for k := range steps {
		for i := range steps {
			for j := range steps {
				t[i][j] = t[i][j] || t[i][k] && t[k][j]
			}
		}
	}
	return t
}

// everyDef goes through all definitions of n steps without keys: all kinds, all needs.
func everyDef(n int, see func(api.Def)) {
	d := row(n, comp)
	var from func(i int)
	from = func(i int) {
		if i == n {
			see(d)
			return
		}
		for kind := comp; kind <= ever; kind++ {
			for bits := range 1 << n {
				if bits>>i&1 == 1 {
					continue
				}
				var needs []int
				for k := range n {
					if bits>>k&1 == 1 {
						needs = append(needs, k)
					}
				}
				d.Steps[i].Kind, d.Steps[i].Needs = kind, needs
				from(i + 1)
			}
		}
	}
	from(0)
}

func TestEverySmallDef(t *testing.T) {
	seen := map[api.Errno]int{}
	for n := 1; n <= 4; n++ {
		everyDef(n, func(d api.Def) {
			i, err := Check(d)
			if k, want := slowCheck(d); i != k || err != want {
				t.Fatalf("P11.1: %v: %d, %d, want %d, %d", d, i, err, k, want)
			}
			seen[err]++
		})
	}
	for _, err := range []api.Errno{api.OK, api.ErrCheckPivot, api.ErrCheckOrder, api.ErrCheckRing} {
		if seen[err] == 0 {
			t.Errorf("no definition has the error %d", err)
		}
	}
}

// def is mostly right; each time that odd hits, something in it is wrong, or might be.
func (m *made) def(odd int) api.Def {
	d := api.Def{Name: m.name(odd, "a")}
	n := 1 + m.below(8)
	if m.below(odd) == 0 {
		n = m.below(11)
	}
	pivots := m.below(n + 1)
	for i := range n {
		s := api.Step{Name: m.name(odd, "s"+string(rune('a'+i))), Kind: comp, Part: m.below(4)}
		switch {
		case i == pivots:
			s.Kind = pivot
		case i > pivots || m.below(odd) == 0:
			s.Kind = ever
		}
		if m.below(odd) == 0 {
			s.Kind = m.below(6) - 1
		}
		s.Keys = m.keys(odd, s.Part)
		s.Needs = m.needs(odd, i, n)
		if m.below(odd) == 0 {
			s.Part = m.below(7) - 1
		}
		d.Steps = append(d.Steps, s)
	}
	if m.below(3) == 0 && n > 1 {
		m.turn(d.Steps)
	}
	return d
}

func (m *made) name(odd int, right string) string {
	if m.below(odd) == 0 {
		return m.one("", "A", "sa", "sb", "-a", "a-", "1", "ßßßßßßßß", "abcdefghi", "a\xff", "ω", "a b")
	}
	return right
}

func (m *made) keys(odd, part int) []string {
	right := [][]string{{"d", "ä"}, {"a", "e"}, {"b", "f"}, {"c", "ß"}}[part]
	if m.below(odd) == 0 {
		return [][]string{{right[1], right[0]}, {right[0], right[0]}, {""}, {"A"}, {right[0], "A"}, {"a", "b"}, {right[0], right[1], "z"}}[m.below(7)]
	}
	from := m.below(3)
	return slices.Clone(right[from : from+m.below(3-from)])
}

func (m *made) needs(odd, self, n int) []int {
	var needs []int
	for k := range self {
		if m.below(4) == 0 {
			needs = append(needs, k)
		}
	}
	switch m.below(4 * odd) {
	case 0:
		needs = append(needs, m.below(n))
	case 1:
		needs = append(needs, n)
	case 2:
		needs = append([]int{m.below(3) - 1}, needs...)
	case 3:
		needs = append(needs, self)
	}
	return needs
}

// turn changes two steps' places, and where they are needed.
func (m *made) turn(steps []api.Step) {
	a, b := m.below(len(steps)), m.below(len(steps))
	steps[a], steps[b] = steps[b], steps[a]
	for _, s := range steps {
		for k, need := range s.Needs {
			if need == a {
				s.Needs[k] = b
			} else if need == b {
				s.Needs[k] = a
			}
		}
		slices.Sort(s.Needs)
	}
}

func TestManyDefs(t *testing.T) {
	m := made(11)
	seen := map[api.Errno]int{}
	for round := range 200000 {
		d := m.def(10 + round%90)
		i, err := Check(d)
		if k, want := slowCheck(d); i != k || err != want {
			t.Fatalf("P11.1: %v: %d, %d, want %d, %d", d, i, err, k, want)
		}
		seen[err]++
	}
	for _, err := range append([]api.Errno{api.OK}, everyError()...) {
		if seen[err] < 100 {
			t.Errorf("only %d definitions have the error %d", seen[err], err)
		}
	}
}

func everyError() []api.Errno {
	return []api.Errno{api.ErrCheckName, api.ErrCheckSteps, api.ErrCheckTwice, api.ErrCheckKind, api.ErrCheckPart, api.ErrCheckKey, api.ErrCheckNeed, api.ErrCheckPivot, api.ErrCheckOrder, api.ErrCheckRing}
}

// TestNeedsLeftOut: P11.2, each need by itself, and made choices of several.
func TestNeedsLeftOut(t *testing.T) {
	m := made(112)
	asked := 0
	for range 30000 {
		d := m.def(60)
		if _, err := Check(d); err != api.OK {
			continue
		}
		for i := range d.Steps {
			whole := d.Steps[i].Needs
			for k := range whole {
				d.Steps[i].Needs = slices.Delete(slices.Clone(whole), k, k+1)
				if step, err := Check(d); step != -1 || err != api.OK {
					t.Fatalf("P11.2: %v: %d, %d, want -1, 0", d, step, err)
				}
				asked++
			}
			d.Steps[i].Needs = whole
		}
		for i := range d.Steps {
			d.Steps[i].Needs = slices.DeleteFunc(d.Steps[i].Needs, func(int) bool { return m.below(2) == 0 })
		}
		if step, err := Check(d); step != -1 || err != api.OK {
			t.Fatalf("P11.2: %v: %d, %d, want -1, 0", d, step, err)
		}
	}
	if asked < 10000 {
		t.Errorf("only %d needs were left out", asked)
	}
}
