package cost

import (
	"math"
	"reflect"
	"slices"
	"testing"

	"odyssey/api"
	"odyssey/def"
)

func read(t *testing.T, text string) api.Def {
	t.Helper()
	d, clause, err := def.Parse(text)
	if err != api.OK {
		t.Fatalf("%q: the clause %d is wrong: %d", text, clause, err)
	}
	return d
}

const tripText = "trip; do hotel @1 +room; do car @0 <hotel; pivot pay @2; ever mail @3"

func TestExamples(t *testing.T) {
	for _, x := range []struct {
		text  string
		orch  int
		parts [api.Parts]int
		named []int
	}{
		{tripText, 17, [4]int{3, 3, 2, 2}, []int{0, 1, 2, 3}},
		{"a; do b @0", 7, [4]int{3}, []int{0}},
		{"a; pivot b @1", 6, [4]int{0, 2}, []int{1}},
		{"a; ever b @2", 6, [4]int{0, 0, 2}, []int{2}},
		{"a; ever b @3", 6, [4]int{0, 0, 0, 2}, []int{3}},
		{"a; do b @3; do c @3", 10, [4]int{0, 0, 0, 5}, []int{3}},
		{"a; do b @3; do c @0", 11, [4]int{3, 0, 0, 3}, []int{0, 3}},
		{"a; do b @2; pivot c @2; ever d @2", 11, [4]int{0, 0, 5}, []int{2}},
		{"a; ever b @1; pivot c @1; ever d @0", 11, [4]int{2, 3}, []int{0, 1}},
		{"a; do b @0; do c @1; do d @2; do e @3; do f @3; do g @2; do h @1; do i @0", 31, [4]int{5, 5, 5, 5}, []int{0, 1, 2, 3}},
		{"a; do b @1; do c @1; do d @1; do e @1; do f @1; do g @1; do h @1; do i @1", 28, [4]int{0, 17}, []int{1}},
		{"a; ever b @1; ever c @1; ever d @1; ever e @1; ever f @1; ever g @1; ever h @1; ever i @1", 20, [4]int{0, 9}, []int{1}},
		{"a; do b @2; ever c @0", 10, [4]int{2, 0, 3}, []int{0, 2}},
	} {
		d := read(t, x.text)
		if c, err := Of(d); c != (api.Cost{Orch: x.orch, Parts: x.parts}) || err != api.OK {
			t.Errorf("P13.1: %q: %v, %d, want %d, %v", x.text, c, err, x.orch, x.parts)
		}
		if named := Named(d); !slices.Equal(named, x.named) {
			t.Errorf("P13.2: %q: %v, want %v", x.text, named, x.named)
		}
	}
}

// TestKeysAndNeeds: names, keys and needs cost nothing.
func TestKeysAndNeeds(t *testing.T) {
	bare := read(t, "a; do b @1; do c @1; pivot d @0; ever e @1")
	rich := read(t, "straße-1; do hotel @1 +a +room; do c @1 +a <hotel; pivot d @0 <hotel <c; ever ωωωωωωωω @1 +room <d <c")
	one, _ := Of(bare)
	two, err := Of(rich)
	if one != two || err != api.OK || one != (api.Cost{Orch: 3 + 3 + 3 + 2 + 2 + 2, Parts: [4]int{2, 6}}) {
		t.Errorf("P13.1: %v and %v, %d", one, two, err)
	}
	if !slices.Equal(Named(bare), []int{0, 1}) || !slices.Equal(Named(rich), []int{0, 1}) {
		t.Errorf("P13.2: %v and %v", Named(bare), Named(rich))
	}
}

// TestMayNotBe: of a definition that may not be nothing is told, whatever is wrong with it.
func TestMayNotBe(t *testing.T) {
	for what, wrong := range map[string]func(d *api.Def){
		"its name":        func(d *api.Def) { d.Name = "" },
		"a step's name":   func(d *api.Def) { d.Steps[0].Name = "A" },
		"a name twice":    func(d *api.Def) { d.Steps[3].Name = "hotel" },
		"a kind 4":        func(d *api.Def) { d.Steps[3].Kind = 4 },
		"a kind 0":        func(d *api.Def) { d.Steps[0].Kind = 0 },
		"a kind below":    func(d *api.Def) { d.Steps[0].Kind = math.MinInt },
		"a participant 4": func(d *api.Def) { d.Steps[1].Part = 4 },
		"one below":       func(d *api.Def) { d.Steps[1].Part = -1 },
		"one far above":   func(d *api.Def) { d.Steps[1].Part = math.MaxInt },
		"another's key":   func(d *api.Def) { d.Steps[0].Keys = []string{"b"} },
		"three keys":      func(d *api.Def) { d.Steps[0].Keys = []string{"a", "e", "room"} },
		"a need above":    func(d *api.Def) { d.Steps[3].Needs = []int{4} },
		"a need below":    func(d *api.Def) { d.Steps[3].Needs = []int{-1} },
		"a need, itself":  func(d *api.Def) { d.Steps[3].Needs = []int{3} },
		"two pivots":      func(d *api.Def) { d.Steps[3].Kind = api.Pivot },
		"order":           func(d *api.Def) { d.Steps[1].Needs = []int{2} },
		"a ring":          func(d *api.Def) { d.Steps[0].Needs = []int{1} },
		"a late key":      func(d *api.Def) { d.Steps[3].Keys = []string{"c"} },
		"no steps":        func(d *api.Def) { d.Steps = nil },
		"an empty list":   func(d *api.Def) { d.Steps = []api.Step{} },
		"nine steps":      func(d *api.Def) { *d = row(9) },
		"far too many":    func(d *api.Def) { d.Steps = make([]api.Step, 1000) },
		"nothing in it":   func(d *api.Def) { *d = api.Def{} },
	} {
		d := read(t, tripText)
		wrong(&d)
		if c, err := Of(d); c != (api.Cost{}) || err != api.ErrArg {
			t.Errorf("P13.1: %s: %v, %d", what, c, err)
		}
		if named := Named(d); len(named) != 0 {
			t.Errorf("P13.2: %s: %v", what, named)
		}
	}
	if _, err := Of(row(8)); err != api.OK {
		t.Errorf("P13.1: eight steps: %d", err)
	}
}

// row is a definition of n compensatable steps at the participant 0.
func row(n int) api.Def {
	d := api.Def{Name: "a"}
	for i := range n {
		d.Steps = append(d.Steps, api.Step{Name: string(rune('a' + i)), Kind: api.Compensatable})
	}
	return d
}

func TestRoom(t *testing.T) {
	for _, x := range []struct{ node, units, room int }{
		{0, 0, 400}, {4, 10, 65680}, {0, 1, 528}, {3, 1, 528}, {4, 0, 64400}, {4, 1, 64528},
		{0, 100000, 12800400}, {3, 100000, 12800400}, {4, 100000, 12864400}, {2, 50, 6800}, {1, 99999, 12800272},
	} {
		if room, err := Room(x.node, x.units); room != x.room || err != api.OK {
			t.Errorf("P13.3: Room(%d, %d) = %d, %d, want %d", x.node, x.units, room, err, x.room)
		}
	}
	for units := 0; units <= 100000; units++ {
		for node := range 4 {
			if room, err := Room(node, units); room != 2*(200+64*units) || err != api.OK {
				t.Fatalf("P13.3: Room(%d, %d) = %d, %d", node, units, room, err)
			}
		}
		if room, err := Room(4, units); room != 2*(200+64*units+16*2000) || err != api.OK {
			t.Fatalf("P13.3: Room(4, %d) = %d, %d", units, room, err)
		}
	}
}

func TestRoomRefuses(t *testing.T) {
	wrongNodes := []int{math.MinInt, math.MinInt32, -5, -1, 5, 6, 256, 1 << 32, math.MaxInt}
	wrongUnits := []int{math.MinInt, math.MinInt + 1, -100000, -1, 100001, 100002, 1 << 57, 1 << 58, math.MaxInt - 1, math.MaxInt}
	refused := func(node, units int) {
		t.Helper()
		if room, err := Room(node, units); room != 0 || err != api.ErrArg {
			t.Errorf("P13.3: Room(%d, %d) = %d, %d", node, units, room, err)
		}
	}
	for _, node := range wrongNodes {
		for _, units := range []int{0, 1, 100000} {
			refused(node, units)
		}
		for _, units := range wrongUnits {
			refused(node, units)
		}
	}
	for node := range 5 {
		for _, units := range wrongUnits {
			refused(node, units)
		}
	}
}

// TestNotShared: R5 of the lists in a definition, with room behind each, and of the list that Named answers.
func TestNotShared(t *testing.T) {
	keys, needs := []string{"room", "spare"}, []int{0, 7}
	make4 := func(keys []string, needs []int) []api.Step {
		return []api.Step{
			{Name: "b", Kind: api.Compensatable, Part: 1, Keys: keys[:1]},
			{Name: "c", Kind: api.Compensatable, Part: 3, Needs: needs[:1]},
			{Name: "d", Kind: api.Retriable, Part: 1, Keys: keys[:1], Needs: needs[:1]},
			{Name: "spare", Kind: 9},
		}
	}
	steps := make4(keys, needs)
	d := api.Def{Name: "a", Steps: steps[:3]}
	for range 2 {
		one, two := Named(d), Named(d)
		for i := range one[:cap(one)] {
			one[:cap(one)][i] = 99
		}
		if !slices.Equal(two, []int{1, 3}) || !slices.Equal(Named(d), []int{1, 3}) {
			t.Errorf("R5: answers of Named share memory: %v, %v", two, Named(d))
		}
		if c, err := Of(d); c != (api.Cost{Orch: 13, Parts: [4]int{0, 4, 0, 3}}) || err != api.OK {
			t.Errorf("P13.1: %v, %d", c, err)
		}
	}
	if !slices.Equal(keys, []string{"room", "spare"}) || !slices.Equal(needs, []int{0, 7}) || !reflect.DeepEqual(steps, make4(keys, needs)) {
		t.Errorf("R5: what was handed in has changed: %v, %v, %v", steps, keys, needs)
	}
}
