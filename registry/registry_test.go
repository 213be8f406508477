package registry

import (
	"math"
	"reflect"
	"slices"
	"strconv"
	"testing"

	"odyssey/api"
	"odyssey/check"
	"odyssey/def"
)

func read(t *testing.T, text string) api.Def {
	t.Helper()
	d, clause, err := def.Parse(text)
	if err != api.OK {
		t.Fatalf("%q: the clause %d is wrong: %d", text, clause, err)
	}
	return d
}

func mustAdd(t *testing.T, what string, r *Registry, d api.Def, version int, want api.Errno) {
	t.Helper()
	if v, err := r.Add(d); v != version || err != want {
		t.Errorf("%s: Add(%v) = %d, %d, want %d, %d", what, d, v, err, version, want)
	}
}

func mustFind(t *testing.T, what string, r *Registry, name string, version int, want api.Def, told int) {
	t.Helper()
	if d, v, err := r.Find(name, version); !alike(d, want) || v != told || err != api.OK {
		t.Errorf("%s: Find(%q, %d) = %v, %d, %d, want %v, %d", what, name, version, d, v, err, want, told)
	}
}

func mustNotFind(t *testing.T, what string, r *Registry, name string, version int) {
	t.Helper()
	if d, v, err := r.Find(name, version); !reflect.DeepEqual(d, api.Def{}) || v != 0 || err != api.ErrRegistryNone {
		t.Errorf("%s: Find(%q, %d) = %v, %d, %d", what, name, version, d, v, err)
	}
}

func mustAll(t *testing.T, what string, r *Registry, want ...api.Def) {
	t.Helper()
	if all := r.All(); !slices.EqualFunc(all, want, alike) {
		t.Errorf("%s: All %v, want %v", what, all, want)
	}
}

func mustNames(t *testing.T, what string, r *Registry, want ...string) {
	t.Helper()
	if names := r.Names(); !slices.Equal(names, want) {
		t.Errorf("%s: Names %q, want %q", what, names, want)
	}
}

func TestExamples(t *testing.T) {
	bx, ax, by := read(t, "b; do x @0"), read(t, "a; do x @1"), read(t, "b; do y @0")
	r := New()
	mustAdd(t, "G2", r, bx, 1, api.OK)
	mustAdd(t, "G2", r, ax, 1, api.OK)
	mustAdd(t, "G2", r, by, 2, api.OK)
	mustAdd(t, "G2", r, by, 2, api.OK)
	mustAdd(t, "G2", r, bx, 3, api.OK)
	mustFind(t, "G3", r, "b", 0, bx, 3)
	mustFind(t, "G3", r, "b", 1, bx, 1)
	mustFind(t, "G3", r, "b", 2, by, 2)
	mustFind(t, "G3", r, "b", 3, bx, 3)
	mustFind(t, "G3", r, "a", 0, ax, 1)
	mustNotFind(t, "G3", r, "b", 4)
	mustNotFind(t, "G3", r, "c", 0)
	mustNotFind(t, "G3", r, "b", -1)
	mustAll(t, "G4", r, bx, ax, by, bx)
	mustNames(t, "G4", r, "a", "b")
	mustAdd(t, "G2", r, read(t, "b"), 0, api.ErrArg)
	mustAll(t, "R3", r, bx, ax, by, bx)
}

func TestNew(t *testing.T) {
	r := New()
	mustAll(t, "G1", r)
	mustNames(t, "G1", r)
	for _, name := range []string{"", "a", "\xff", "A", "abcdefghi"} {
		for _, version := range []int{math.MinInt, -1, 0, 1, 16, math.MaxInt} {
			mustNotFind(t, "G1", r, name, version)
		}
	}
}

func TestFindNone(t *testing.T) {
	r := New()
	mustAdd(t, "G2", r, read(t, "ab; do x @0"), 1, api.OK)
	mustAdd(t, "G2", r, read(t, "ab; do y @0"), 2, api.OK)
	for _, name := range []string{"", "a", "b", "abc", "AB", "aB", "ab\x00", "ab ", "\xffab", "x", "y"} {
		for version := -1; version <= 3; version++ {
			mustNotFind(t, "G3", r, name, version)
		}
	}
	for _, version := range []int{math.MinInt, math.MinInt32, -2, -1, 3, 4, 16, 17, 1<<32 + 1, math.MaxInt} {
		mustNotFind(t, "G3", r, "ab", version)
	}
}

// differing are definitions of one name, no two the same: each has its neighbours' fields but for one.
func differing(t *testing.T) []api.Def {
	var defs []api.Def
	for _, text := range []string{
		"a; do x @1", "a; do xx @1", "a; do y @1", "a; pivot x @1", "a; ever x @1", "a; do x @0", "a; do x @2", "a; do x @3",
		"a; do x @1 +a", "a; do x @1 +room", "a; do x @1 +a +room", "a; pivot x @1 +a",
		"a; do x @1; do y @1", "a; do y @1; do x @1", "a; do x @1; do y @1 <x", "a; do x @1 <y; do y @1",
		"a; do x @1 +a; do y @1", "a; do x @1; do y @1 +a", "a; do x @1 +a; do y @1 +a", "a; do x @1 +a; do y @1 +room", "a; do x @1 +a; ever y @1 +a",
		"a; do x @1; do y @1; do z @1", "a; do x @1; do y @1; do z @1 <x", "a; do x @1; do y @1; do z @1 <y", "a; do x @1; do y @1; do z @1 <x <y",
		"a; do b @1; do c @1; do d @1; do e @1; do f @1; do g @1; do h @1",
		"a; do b @1; do c @1; do d @1; do e @1; do f @1; do g @1; do h @1; do i @1",
		"a; do b @1; do c @1; do d @1; do e @1; do f @1; do g @1; do h @1; do j @1",
		"a; do b @1; do c @1; do d @1; do e @1; do f @1; do g @1; do h @1; do i @1 <h",
		"a; do b @1; do c @1; do d @1; do e @1; do f @1; do g @1; do h @1; do i @1 <b <c <d <e <f <g <h",
		"a; do b @1 <i; do c @1; do d @1; do e @1; do f @1; do g @1; do h @1; do i @1",
		"a; do b @1; do c @1; do d @1; do e @1; do f @1; do g @1; do h @1; do i @1 +a +room",
	} {
		defs = append(defs, read(t, text))
	}
	return defs
}

func TestTheSame(t *testing.T) {
	defs := differing(t)
	for i, one := range defs {
		for k, two := range defs {
			r := New()
			mustAdd(t, "G2", r, one, 1, api.OK)
			if i == k {
				mustAdd(t, "G2: the same", r, plain(two), 1, api.OK)
				mustAll(t, "G2", r, one)
				continue
			}
			mustAdd(t, "G2: another", r, two, 2, api.OK)
			mustAdd(t, "G2: the first one again", r, one, 3, api.OK)
			mustAll(t, "G4", r, one, two, one)
			mustFind(t, "G3", r, "a", 1, one, 1)
			mustFind(t, "G3", r, "a", 2, two, 2)
			mustFind(t, "G3", r, "a", 0, one, 3)
		}
	}
}

// TestNilAndEmpty: a list that is nil is one that is empty.
func TestNilAndEmpty(t *testing.T) {
	none := api.Def{Name: "a", Steps: []api.Step{{Name: "x", Kind: api.Compensatable}}}
	for _, keys := range [][]string{nil, {}, make([]string, 0, 2), []string{"d"}[:0]} {
		for _, needs := range [][]int{nil, {}, make([]int, 0, 8), []int{0}[:0]} {
			empty := api.Def{Name: "a", Steps: []api.Step{{Name: "x", Kind: api.Compensatable, Keys: keys, Needs: needs}}}
			r := New()
			mustAdd(t, "G2", r, none, 1, api.OK)
			mustAdd(t, "G2", r, empty, 1, api.OK)
			mustAll(t, "G4", r, none)
			r = New()
			mustAdd(t, "G2", r, empty, 1, api.OK)
			mustAdd(t, "G2", r, none, 1, api.OK)
			mustFind(t, "G3", r, "a", 0, none, 1)
		}
	}
}

// TestMayNotBe: whatever is wrong, also beside what is in already, and where the registry is full.
func TestMayNotBe(t *testing.T) {
	const text = "trip; do hotel @1 +room; do car @0 <hotel; pivot pay @2; ever mail @3"
	r, full := New(), New()
	mustAdd(t, "G2", r, read(t, text), 1, api.OK)
	fill(t, full, "trip", 16)
	for what, wrong := range map[string]func(d *api.Def){
		"no name":        func(d *api.Def) { d.Name = "" },
		"a great letter": func(d *api.Def) { d.Name = "Trip" },
		"a step's name":  func(d *api.Def) { d.Steps[0].Name = "" },
		"the last one's": func(d *api.Def) { d.Steps[3].Name = "" },
		"a name twice":   func(d *api.Def) { d.Steps[3].Name = "hotel" },
		"a kind":         func(d *api.Def) { d.Steps[3].Kind = 4 },
		"a participant":  func(d *api.Def) { d.Steps[1].Part = 4 },
		"another's key":  func(d *api.Def) { d.Steps[0].Keys = []string{"b"} },
		"an empty key":   func(d *api.Def) { d.Steps[1].Keys = []string{""} },
		"a key twice":    func(d *api.Def) { d.Steps[0].Keys = []string{"room", "room"} },
		"three keys":     func(d *api.Def) { d.Steps[0].Keys = []string{"a", "e", "room"} },
		"falling keys":   func(d *api.Def) { d.Steps[0].Keys = []string{"room", "a"} },
		"a need of 8":    func(d *api.Def) { d.Steps[3].Needs = []int{8} },
		"a need below":   func(d *api.Def) { d.Steps[3].Needs = []int{-1} },
		"a need twice":   func(d *api.Def) { d.Steps[1].Needs = []int{0, 0} },
		"falling needs":  func(d *api.Def) { d.Steps[3].Needs = []int{1, 0} },
		"two pivots":     func(d *api.Def) { d.Steps[3].Kind = api.Pivot },
		"order":          func(d *api.Def) { d.Steps[1].Needs = []int{2} },
		"a ring":         func(d *api.Def) { d.Steps[0].Needs = []int{1} },
		"a late key":     func(d *api.Def) { d.Steps[3].Keys = []string{"c"} },
		"no steps":       func(d *api.Def) { d.Steps = nil },
		"nine steps":     func(d *api.Def) { d.Steps = make([]api.Step, 9) },
		"far too many":   func(d *api.Def) { d.Steps = make([]api.Step, 1000) },
		"nothing in it":  func(d *api.Def) { *d = api.Def{} },
	} {
		d := read(t, text)
		wrong(&d)
		if _, err := check.Check(d); err == api.OK {
			t.Errorf("%s: it may be", what)
		}
		mustAdd(t, "G2: "+what, r, d, 0, api.ErrArg)
		mustAdd(t, "G2: full: "+what, full, d, 0, api.ErrArg)
	}
	mustAll(t, "R3", r, read(t, text))
	mustNames(t, "R3", r, "trip")
	if len(full.All()) != 16 {
		t.Errorf("R3: there are %d definitions", len(full.All()))
	}
}

func numbered(name string, i int) api.Def {
	return api.Def{Name: name, Steps: []api.Step{{Name: "s" + strconv.Itoa(i), Kind: api.Compensatable, Part: i % 4}}}
}

// fill puts in definitions of one name, with the versions 1 to count.
func fill(t *testing.T, r *Registry, name string, count int) {
	t.Helper()
	for i := range count {
		mustAdd(t, "G2", r, numbered(name, i+1), i+1, api.OK)
	}
}

func TestFull(t *testing.T) {
	r := New()
	fill(t, r, "a", 15)
	mustAdd(t, "G2: the sixteenth", r, numbered("b", 1), 1, api.OK)
	before := r.All()
	for range 2 {
		mustAdd(t, "G2: one more of a", r, numbered("a", 16), 0, api.ErrRegistryFull)
		mustAdd(t, "G2: one more of b", r, numbered("b", 2), 0, api.ErrRegistryFull)
		mustAdd(t, "G2: a new name", r, numbered("c", 1), 0, api.ErrRegistryFull)
		mustAdd(t, "G2: an older one again", r, numbered("a", 14), 0, api.ErrRegistryFull)
		mustAdd(t, "G2: the newest one of a", r, numbered("a", 15), 15, api.OK)
		mustAdd(t, "G2: the newest one of b", r, numbered("b", 1), 1, api.OK)
		mustAdd(t, "G2: a wrong one", r, api.Def{Name: "c"}, 0, api.ErrArg)
		mustAll(t, "R3", r, before...)
		mustNames(t, "R3", r, "a", "b")
		mustFind(t, "G3", r, "a", 0, numbered("a", 15), 15)
		mustNotFind(t, "R3", r, "a", 16)
		mustNotFind(t, "R3", r, "b", 2)
		mustNotFind(t, "R3", r, "c", 0)
		mustNotFind(t, "R3", r, "c", 1)
	}
}

func TestSixteenVersionsAndNames(t *testing.T) {
	r := New()
	fill(t, r, "a", 16)
	for i := range 16 {
		mustFind(t, "G3", r, "a", i+1, numbered("a", i+1), i+1)
	}
	mustFind(t, "G3", r, "a", 0, numbered("a", 16), 16)
	mustNotFind(t, "G3", r, "a", 17)
	r = New()
	names := []string{"ω", "b", "a", "ß", "ü", "a1", "zz", "a-", "ä", "aa", "α", "ö", "z", "b-9", "ω-", "a0"}
	for i, name := range names {
		mustAdd(t, "G2", r, numbered(name, i), 1, api.OK)
	}
	mustNames(t, "G4", r, "a", "a-", "a0", "a1", "aa", "b", "b-9", "z", "zz", "ß", "ä", "ö", "ü", "α", "ω", "ω-")
	for i, d := range r.All() {
		if !alike(d, numbered(names[i], i)) {
			t.Errorf("G4: the definition %d is %v", i, d)
		}
	}
}

// TestHandedInIsNotKept: R5 of what Add is given, with room behind each list.
func TestHandedInIsNotKept(t *testing.T) {
	fresh := func() ([]string, []int, []api.Step) {
		keys, needs := []string{"a", "room", "spare"}, []int{0, 1, 9}
		return keys, needs, []api.Step{
			{Name: "x", Kind: api.Compensatable, Part: 1, Keys: keys[:2]},
			{Name: "y", Kind: api.Compensatable, Part: 1, Keys: keys[:1], Needs: needs[:1]},
			{Name: "z", Kind: api.Retriable, Part: 1, Keys: keys[:2], Needs: needs[:2]},
			{Name: "spare", Kind: 9},
		}
	}
	keys, needs, steps := fresh()
	r := New()
	for range 2 {
		mustAdd(t, "G2", r, api.Def{Name: "a", Steps: steps[:3]}, 1, api.OK)
	}
	wantKeys, wantNeeds, want := fresh()
	if !slices.Equal(keys, wantKeys) || !slices.Equal(needs, wantNeeds) || !reflect.DeepEqual(steps, want) {
		t.Errorf("R5: Add changed what it was given: %v, %v, %v", steps, keys, needs)
	}
	keys[0], keys[1], needs[0], needs[1] = "e", "spare", 1, 7
	steps[0].Name, steps[1].Kind, steps[2].Part = "changed", 7, 7
	mustFind(t, "R5", r, "a", 1, api.Def{Name: "a", Steps: want[:3]}, 1)
	mustAll(t, "R5", r, api.Def{Name: "a", Steps: want[:3]})
	mustAdd(t, "R5", r, api.Def{Name: "a", Steps: want[:3]}, 1, api.OK)
}

// spoil writes over one step's lists, their spare room too.
func spoil(step *api.Step) {
	for i := range step.Keys[:cap(step.Keys)] {
		step.Keys[:cap(step.Keys)][i] = "spoilt"
	}
	for i := range step.Needs[:cap(step.Needs)] {
		step.Needs[:cap(step.Needs)][i] = 99
	}
}

// TestAnswersAreNew: R5 of what Find, All and Names answer: each list is written over, and nothing else may change by it.
func TestAnswersAreNew(t *testing.T) {
	one := read(t, "a; do x @1 +a +room; do y @1 +a <x; ever z @1 +a +room <x <y")
	two := read(t, "a; do x @1 +a; do y @1 +a +room <x; ever z @1 <x <y")
	r := New()
	mustAdd(t, "G2", r, one, 1, api.OK)
	mustAdd(t, "G2", r, two, 2, api.OK)
	mustAdd(t, "G2", r, numbered("b", 1), 1, api.OK)
	for i := range 3 {
		for k, want := range []api.Def{one, two} {
			found, _, _ := r.Find("a", k+1)
			spoil(&found.Steps[i])
			found.Steps[i] = plain(want).Steps[i]
			if !alike(found, want) {
				t.Errorf("R5: the step %d shares its lists with others: %v", i, found)
			}
			all := r.All()
			spoil(&all[k].Steps[i])
			all[k].Steps[i] = plain(want).Steps[i]
			if !slices.EqualFunc(all, []api.Def{one, two, numbered("b", 1)}, alike) {
				t.Errorf("R5: the step %d shares its lists with others: %v", i, all)
			}
		}
	}
	found, _, _ := r.Find("a", 1)
	all, other, names := r.All(), r.All(), r.Names()
	clear(found.Steps[:cap(found.Steps)])
	clear(all[0].Steps[:cap(all[0].Steps)])
	if !alike(all[1], two) || !alike(other[0], one) {
		t.Errorf("R5: two definitions share their steps: %v, %v", all[1], other[0])
	}
	clear(all[:cap(all)])
	clear(names[:cap(names)])
	mustAll(t, "R5", r, one, two, numbered("b", 1))
	mustNames(t, "R5", r, "a", "b")
	mustFind(t, "R5", r, "a", 1, one, 1)
	mustFind(t, "R5", r, "a", 0, two, 2)
	mustAdd(t, "R5", r, two, 2, api.OK)
}

// TestObjects: R5: registries know nothing of one another.
func TestObjects(t *testing.T) {
	a, b := New(), New()
	mustAdd(t, "G2", a, numbered("a", 1), 1, api.OK)
	mustAll(t, "R5", b)
	mustNotFind(t, "R5", b, "a", 0)
	mustAdd(t, "R5", b, numbered("a", 2), 1, api.OK)
	mustAdd(t, "R5", a, numbered("a", 3), 2, api.OK)
	mustFind(t, "R5", b, "a", 0, numbered("a", 2), 1)
	mustAll(t, "R5", b, numbered("a", 2))
	mustAll(t, "R5", a, numbered("a", 1), numbered("a", 3))
}

// TestAskingChangesNothing: R6: Find, All and Names leave a registry as it is.
func TestAskingChangesNothing(t *testing.T) {
	r, s := New(), slow{}
	for i := range 5 {
		holdAdd(t, r, &s, numbered("a", i))
		holdAdd(t, r, &s, numbered("b", i/2))
		for range 2 {
			hold(t, r, &s)
		}
	}
}
