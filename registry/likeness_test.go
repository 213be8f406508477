package registry

import (
	"math"
	"reflect"
	"slices"
	"testing"

	"odyssey/api"
	"odyssey/check"
	"odyssey/name"
)

// made is a row of numbers that follow a fixed rule.
type made uint64

func (m *made) below(n int) int {
	*m = *m*6364136223846793005 + 1442695040888963407
	return int(uint64(*m) >> 33 % uint64(n))
}

// plain is a definition of its own memory in which a list without elements is nil.
func plain(d api.Def) api.Def {
	d.Steps = append([]api.Step(nil), d.Steps...)
	for i := range d.Steps {
		d.Steps[i].Keys = append([]string(nil), d.Steps[i].Keys...)
		d.Steps[i].Needs = append([]int(nil), d.Steps[i].Needs...)
	}
	return d
}

func alike(a, b api.Def) bool { return reflect.DeepEqual(plain(a), plain(b)) }

// slow is a registry as the chapter's words have it: a list, gone through from its beginning at each call.
type slow []api.Def

func (s *slow) versions(name string) []api.Def {
	var of []api.Def
	for _, d := range *s {
		if d.Name == name {
			of = append(of, d)
		}
	}
	return of
}

func (s *slow) add(d api.Def) (int, api.Errno) {
	of := s.versions(d.Name)
	if _, err := check.Check(d); err != api.OK {
		return 0, api.ErrArg
	}
	if len(of) > 0 && alike(of[len(of)-1], d) {
		return len(of), api.OK
	}
	if len(*s) == 16 {
		return 0, api.ErrRegistryFull
	}
	*s = append(*s, plain(d))
	return len(of) + 1, api.OK
}

func (s *slow) find(name string, version int) (api.Def, int, api.Errno) {
	of := s.versions(name)
	if version == 0 {
		version = len(of)
	}
	if version < 1 || version > len(of) {
		return api.Def{}, 0, api.ErrRegistryNone
	}
	return of[version-1], version, api.OK
}

// names puts each name ahead of the first that is greater.
func (s *slow) names() []string {
	var names []string
	for _, d := range *s {
		at := 0
		for at < len(names) && name.Compare(names[at], d.Name) < 0 {
			at++
		}
		if at == len(names) || names[at] != d.Name {
			names = slices.Insert(names, at, d.Name)
		}
	}
	return names
}

// holdFind asks for one definition; what is told beside an error is of zero values.
func holdFind(t *testing.T, r *Registry, s *slow, name string, version int) {
	t.Helper()
	d, v, err := r.Find(name, version)
	want, w, code := s.find(name, version)
	if !alike(d, want) || v != w || err != code {
		t.Fatalf("G3: Find(%q, %d) = %v, %d, %d, want %v, %d, %d", name, version, d, v, err, want, w, code)
	}
	if err != api.OK && (d.Steps != nil || v != 0) {
		t.Fatalf("R3: Find(%q, %d) = %v, %d, %d", name, version, d, v, err)
	}
}

func holdAll(t *testing.T, r *Registry, s *slow) {
	t.Helper()
	all := r.All()
	if len(all) != len(*s) {
		t.Fatalf("G4: %v, want %v", all, *s)
	}
	for i, d := range all {
		if !alike(d, (*s)[i]) {
			t.Fatalf("G4: the definition %d is %v, want %v", i, d, (*s)[i])
		}
	}
	if names := r.Names(); !slices.Equal(names, s.names()) {
		t.Fatalf("G4: Names %q, want %q", names, s.names())
	}
}

// hold holds all that a registry tells against its likeness.
func hold(t *testing.T, r *Registry, s *slow) {
	t.Helper()
	holdAll(t, r, s)
	for _, name := range append(s.names(), "", "none", "a", "A") {
		for version := -1; version <= len(s.versions(name))+1; version++ {
			holdFind(t, r, s, name, version)
		}
		for _, version := range []int{math.MinInt, -16, 17, 1 << 32, math.MaxInt} {
			holdFind(t, r, s, name, version)
		}
	}
}

// holdAdd is one Add, and P14.3 behind it.
func holdAdd(t *testing.T, r *Registry, s *slow, d api.Def) api.Errno {
	t.Helper()
	v, err := r.Add(d)
	if w, code := s.add(d); v != w || err != code {
		t.Fatalf("G2: %v: Add(%v) = %d, %d, want %d, %d", *s, d, v, err, w, code)
	}
	if err != api.OK {
		return err
	}
	if newest, n, code := r.Find(d.Name, 0); !alike(newest, d) || n != v || code != api.OK {
		t.Fatalf("P14.3: behind Add(%v), which told %d, the newest is %v, %d, %d", d, v, newest, n, code)
	}
	count := len(r.All())
	if n, code := r.Add(d); n != v || code != api.OK || len(r.All()) != count {
		t.Fatalf("P14.3: Add(%v) once more: %d, %d, want %d", d, n, code, v)
	}
	return err
}

// holdAgain: a registry of what All tells is like this one, now and later.
func holdAgain(t *testing.T, r *Registry, s *slow, later []api.Def) {
	t.Helper()
	other, same := New(), slow{}
	for i, d := range r.All() {
		if v, err := other.Add(d); v < 1 || err != api.OK || len(other.All()) != i+1 {
			t.Fatalf("P14.2: %v: Add(%v) = %d, %d", *s, d, v, err)
		}
	}
	for _, d := range *s {
		same = append(same, plain(d))
	}
	hold(t, other, &same)
	for _, d := range later {
		holdAdd(t, other, &same, d)
	}
	hold(t, other, &same)
}

// few are definitions that differ by little, and wrong ones.
func few() []api.Def {
	x := api.Step{Name: "x", Kind: api.Compensatable}
	y := api.Step{Name: "y", Kind: api.Compensatable}
	return []api.Def{
		{Name: "a", Steps: []api.Step{x}},
		{Name: "a", Steps: []api.Step{x, y}},
		{Name: "b", Steps: []api.Step{x}},
		{Name: "a"},
	}
}

// TestEveryShortRow: all rows of up to six Adds of four definitions.
func TestEveryShortRow(t *testing.T) {
	defs := few()
	rows := [][]int{nil}
	for range 6 {
		var longer [][]int
		for _, row := range rows {
			for i := range defs {
				longer = append(longer, append(slices.Clone(row), i))
			}
		}
		rows = longer
		for _, row := range rows {
			r, s := New(), slow{}
			for _, i := range row {
				holdAdd(t, r, &s, defs[i])
			}
			hold(t, r, &s)
			holdAgain(t, r, &s, nil)
		}
	}
}

// def is a definition out of few, so that the same one comes again, or a wrong one.
func (m *made) def(names []string) api.Def {
	d := api.Def{Name: names[m.below(len(names))]}
	for i := range 1 + m.below(2) {
		step := api.Step{Name: string(rune('x' + i)), Kind: api.Compensatable, Part: 1}
		if m.below(4) == 0 {
			step.Kind = api.Retriable
		}
		switch m.below(6) {
		case 0:
			step.Keys = []string{"a"}
		case 1:
			step.Keys = []string{"a", "room"}
		case 2:
			step.Keys = []string{}
		}
		if i > 0 && m.below(2) == 0 {
			step.Needs = []int{0}
		}
		d.Steps = append(d.Steps, step)
	}
	return d
}

func TestManyRows(t *testing.T) {
	m, seen := made(14), map[api.Errno]int{}
	names := []string{"a", "b", "aa", "ä", "ω", "z", "a-1", "a1", "ß", "α"}
	for range 600 {
		r, s := New(), slow{}
		some := names[:1+m.below(len(names))]
		for range 1 + m.below(40) {
			seen[holdAdd(t, r, &s, m.def(some))]++
		}
		hold(t, r, &s)
		holdAgain(t, r, &s, []api.Def{m.def(some), m.def(some), m.def(names)})
	}
	for _, err := range []api.Errno{api.OK, api.ErrArg, api.ErrRegistryFull} {
		if seen[err] < 500 {
			t.Errorf("the answer %d came %d times only", err, seen[err])
		}
	}
}

// TestForEver: each definition that was told a version is found by it behind each later Add.
func TestForEver(t *testing.T) {
	m := made(141)
	type told struct {
		d       api.Def
		version int
	}
	for range 100 {
		r, all := New(), []told{}
		for range 30 {
			d := m.def([]string{"a", "b"})
			if v, err := r.Add(d); err == api.OK {
				all = append(all, told{plain(d), v})
			}
			for _, x := range all {
				if d, v, err := r.Find(x.d.Name, x.version); !alike(d, x.d) || v != x.version || err != api.OK {
					t.Fatalf("P14.1: Find(%q, %d) = %v, %d, %d, want %v", x.d.Name, x.version, d, v, err, x.d)
				}
			}
		}
	}
}
