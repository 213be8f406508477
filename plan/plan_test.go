package plan

import (
	"math"
	"reflect"
	"slices"
	"testing"

	"odyssey/api"
	"odyssey/def"
)

func read(t *testing.T, text string) api.Def {
	t.Helper()
	d, clause, err := def.Parse(text)
	if err != api.OK {
		t.Fatalf("%q: the clause %d is wrong: %d", text, clause, err)
	}
	return d
}

func trip(t *testing.T) api.Def {
	return read(t, "trip; do hotel @1; do car @0 <hotel; pivot pay @2; ever mail @3")
}

func isList(t *testing.T, what string, got []int, want ...int) {
	t.Helper()
	if !slices.Equal(got, want) {
		t.Errorf("%s: %v, want %v", what, got, want)
	}
}

func TestExamples(t *testing.T) {
	d := trip(t)
	isList(t, "L1: Ahead of 0", Ahead(d, 0))
	isList(t, "L1: Ahead of 1", Ahead(d, 1), 0)
	isList(t, "L1: Ahead of 2", Ahead(d, 2), 0, 1)
	isList(t, "L1: Ahead of 3", Ahead(d, 3), 0, 1, 2)
	isList(t, "L1: Behind 0", Behind(d, 0), 1, 2, 3)
	isList(t, "L1: Behind 1", Behind(d, 1), 2, 3)
	isList(t, "L1: Behind 2", Behind(d, 2), 3)
	isList(t, "L1: Behind 3", Behind(d, 3))
	isList(t, "L1: Behind 4", Behind(d, 4))
	isList(t, "L2: Order", slices.Collect(Order(d)), 0, 1, 2, 3)
	isList(t, "L2: Order", slices.Collect(Order(read(t, "a; ever x @0; do y @1; do z @2 <y"))), 1, 2, 0)
	isList(t, "L3: Ready, all idle", Ready(d, []int{0, 0, 0, 0}), 0)
	isList(t, "L3: Ready, one sent", Ready(d, []int{2, 1, 0, 0}))
	isList(t, "L3: Ready, the last", Ready(d, []int{2, 2, 2, 0}), 3)
	isList(t, "L3: Undo, one sent", Undo(d, []int{2, 1, 0, 0}), 1)
	isList(t, "L3: Undo, one refused", Undo(d, []int{2, 3, 0, 0}), 0)
	isList(t, "L3: Undo, all undone", Undo(d, []int{5, 5, 0, 0}))
	isList(t, "Ready, too few states", Ready(d, []int{0, 0, 0}))
	isList(t, "Undo, a wrong state", Undo(d, []int{0, 0, 0, 6}))
}

// TestKinds: a pivot comes behind compensatable steps, a retriable one behind these and the pivot, wherever they stand and needs or not.
func TestKinds(t *testing.T) {
	d := read(t, "a; ever v @0; pivot p @1; do b @2; ever w @3 <v; do c @0")
	for i, want := range [][]int{{1, 2, 4}, {2, 4}, nil, {0, 1, 2, 4}, nil} {
		isList(t, "L1: Ahead", Ahead(d, i), want...)
	}
	for i, want := range [][]int{{3}, {0, 3}, {0, 1, 3}, nil, {0, 1, 3}} {
		isList(t, "L1: Behind", Behind(d, i), want...)
	}
	isList(t, "L2: Order", slices.Collect(Order(d)), 2, 4, 1, 0, 3)
	isList(t, "L3: Ready, two at once", Ready(d, []int{0, 0, 0, 0, 0}), 2, 4)
	isList(t, "L3: Ready, the pivot waits", Ready(d, []int{0, 0, 2, 0, 1}))
	isList(t, "L3: Ready, the pivot", Ready(d, []int{0, 0, 2, 0, 2}), 1)
	isList(t, "L3: Ready, a retriable step", Ready(d, []int{0, 2, 2, 0, 2}), 0)
	isList(t, "L3: Undo, all done", Undo(d, []int{2, 2, 2, 2, 2}), 3)
	isList(t, "L3: Undo, two at once", Undo(d, []int{0, 0, 1, 0, 2}), 2, 4)
	isList(t, "L3: Undo, the pivot sent", Undo(d, []int{0, 1, 2, 0, 2}), 1)
}

// TestChain: what lies ahead through others, in rows against the numbers' order too.
func TestChain(t *testing.T) {
	d := read(t, "a; do b @0 <c; do c @0 <d; do d @0 <e; do e @0 <f; do f @0 <g; do g @0 <h; do h @0 <i; do i @0")
	isList(t, "L1: Ahead of 0", Ahead(d, 0), 1, 2, 3, 4, 5, 6, 7)
	isList(t, "L1: Behind 7", Behind(d, 7), 0, 1, 2, 3, 4, 5, 6)
	isList(t, "L1: Ahead of 6", Ahead(d, 6), 7)
	isList(t, "L1: Behind 0", Behind(d, 0))
	isList(t, "L2: Order", slices.Collect(Order(d)), 7, 6, 5, 4, 3, 2, 1, 0)
	isList(t, "L3: Undo, through idle ones", Undo(d, []int{1, 0, 0, 0, 0, 0, 0, 2}), 0)
	isList(t, "L3: Ready, through idle ones", Ready(d, []int{0, 2, 2, 2, 2, 2, 2, 0}), 7)
}

// TestStates: each state of one step, and what it does to the one behind and the one ahead.
func TestStates(t *testing.T) {
	d := read(t, "a; do b @0; do c @0 <b")
	for state, want := range [][]int{{0}, nil, {1}, nil, nil, nil} {
		isList(t, "L3: Ready, the first step's state", Ready(d, []int{state, 0}), want...)
	}
	for state, want := range [][]int{{0}, {1}, {1}, {0}, {0}, {0}} {
		isList(t, "L3: Undo, the second step's state", Undo(d, []int{2, state}), want...)
		isList(t, "L3: Undo, the second step's state", Undo(d, []int{1, state}), want...)
	}
	one := read(t, "a; ever b @0")
	for state, want := range [][]int{{0}, nil, nil, nil, nil, nil} {
		isList(t, "L3: Ready, one step", Ready(one, []int{state}), want...)
	}
	for state, want := range [][]int{nil, {0}, {0}, nil, nil, nil} {
		isList(t, "L3: Undo, one step", Undo(one, []int{state}), want...)
	}
}

func TestWrongNumbers(t *testing.T) {
	d := trip(t)
	long := read(t, "a; do b @0; do c @0; do d @0; do e @0; do f @0; do g @0; do h @0; ever i @0")
	for _, i := range []int{math.MinInt, -64, -1, 4, 5, 7, 8, 63, 64, math.MaxInt} {
		isList(t, "Ahead of no step", Ahead(d, i))
		isList(t, "Behind no step", Behind(d, i))
		if i != 4 && i != 5 && i != 7 {
			isList(t, "Ahead of no step, of eight", Ahead(long, i))
			isList(t, "Behind no step, of eight", Behind(long, i))
		}
	}
	for _, states := range [][]int{nil, {}, {0}, {0, 0, 0}, {0, 0, 0, 0, 0}, {2, 2, 0, 0, 0, 0, 0, 0}, make([]int, 10000)} {
		isList(t, "Ready, not as many states", Ready(d, states))
		isList(t, "Undo, not as many states", Undo(d, states))
	}
	for _, wrong := range []int{math.MinInt, -1, 6, 7, 256, math.MaxInt} {
		for i := range 4 {
			states := []int{2, 2, 1, 0}
			states[i] = wrong
			isList(t, "Undo, a wrong state", Undo(d, states))
			states = []int{2, 0, 0, 0}
			states[i] = wrong
			isList(t, "Ready, a wrong state", Ready(d, states))
		}
	}
}

// TestMayNotBe: of a definition that may not be nothing is told, whatever is wrong with it.
func TestMayNotBe(t *testing.T) {
	spoil := map[string]func(d *api.Def){
		"its name":        func(d *api.Def) { d.Name = "" },
		"a step's name":   func(d *api.Def) { d.Steps[0].Name = "A" },
		"a name twice":    func(d *api.Def) { d.Steps[3].Name = "hotel" },
		"a kind":          func(d *api.Def) { d.Steps[3].Kind = 4 },
		"a kind 0":        func(d *api.Def) { d.Steps[0].Kind = 0 },
		"a participant":   func(d *api.Def) { d.Steps[1].Part = 4 },
		"a key":           func(d *api.Def) { d.Steps[0].Keys = []string{"b"} },
		"a need below":    func(d *api.Def) { d.Steps[3].Needs = []int{-1} },
		"a need above":    func(d *api.Def) { d.Steps[3].Needs = []int{4} },
		"a need of 8":     func(d *api.Def) { d.Steps[3].Needs = []int{8} },
		"a great need":    func(d *api.Def) { d.Steps[3].Needs = []int{math.MaxInt} },
		"a need, itself":  func(d *api.Def) { d.Steps[3].Needs = []int{3} },
		"a need twice":    func(d *api.Def) { d.Steps[3].Needs = []int{1, 1} },
		"two pivots":      func(d *api.Def) { d.Steps[3].Kind = api.Pivot },
		"order":           func(d *api.Def) { d.Steps[1].Needs = []int{2} },
		"a ring":          func(d *api.Def) { d.Steps[0].Needs = []int{1} },
		"a late key":      func(d *api.Def) { d.Steps[3].Keys = []string{"c"} },
		"no steps":        func(d *api.Def) { d.Steps = nil },
		"too many steps":  func(d *api.Def) { d.Steps = make([]api.Step, 9) },
		"far too many":    func(d *api.Def) { d.Steps = make([]api.Step, 100) },
		"nothing in it":   func(d *api.Def) { *d = api.Def{} },
		"empty steps too": func(d *api.Def) { *d = api.Def{Steps: make([]api.Step, 4)} },
	}
	for what, wrong := range spoil {
		d := trip(t)
		wrong(&d)
		for i := -1; i <= len(d.Steps); i++ {
			isList(t, what+": Ahead", Ahead(d, i))
			isList(t, what+": Behind", Behind(d, i))
		}
		order := Order(d)
		if order == nil {
			t.Fatalf("L2: %s: the order is nil", what)
		}
		isList(t, what+": Order", slices.Collect(order))
		for n := range 10 {
			for state := range 6 {
				states := slices.Repeat([]int{state}, n)
				isList(t, what+": Ready", Ready(d, states))
				isList(t, what+": Undo", Undo(d, states))
			}
		}
	}
}

func TestOrderLeftEarly(t *testing.T) {
	d := read(t, "a; ever x @0; do y @1; do z @2 <y; pivot p @0; do u @3")
	want := []int{1, 2, 4, 3, 0}
	order := Order(d)
	for left := 1; left <= len(want); left++ {
		var got []int
		for i := range order {
			got = append(got, i)
			if len(got) == left {
				break
			}
		}
		isList(t, "L2: left early", got, want[:left]...)
		isList(t, "L2: behind that, from the beginning", slices.Collect(order), want...)
	}
	calls := 0
	order(func(int) bool { calls++; return false })
	if calls != 1 {
		t.Errorf("L2: asked %d times behind the first false", calls)
	}
}

func TestOrderWithinItself(t *testing.T) {
	d := read(t, "a; ever x @0; do y @1; do z @2 <y; pivot p @0; do u @3")
	want := []int{1, 2, 4, 3, 0}
	order := Order(d)
	var outer []int
	for i := range order {
		outer = append(outer, i)
		var inner []int
		for k := range order {
			inner = append(inner, k)
			for first := range order {
				isList(t, "L2: a third within", []int{first}, want[0])
				break
			}
			if len(inner) == len(outer)+1 {
				break
			}
		}
		isList(t, "L2: within its own loop", inner, want[:min(len(outer)+1, len(want))]...)
	}
	isList(t, "L2: around another", outer, want...)
}

// TestOrderKeepsNothing: an order tells the definition as it was when Order was called.
func TestOrderKeepsNothing(t *testing.T) {
	d := trip(t)
	order := Order(d)
	d.Steps[1].Needs[0] = 3
	isList(t, "L2: a need changed", slices.Collect(order), 0, 1, 2, 3)
	d.Steps[0] = api.Step{Name: "x", Kind: api.Retriable}
	isList(t, "L2: a step changed", slices.Collect(order), 0, 1, 2, 3)
	clear(d.Steps)
	isList(t, "L2: all steps changed", slices.Collect(order), 0, 1, 2, 3)

	d = trip(t)
	broken := trip(t)
	broken.Steps[1].Kind = 9
	order = Order(broken)
	broken.Steps[1].Kind = api.Compensatable
	isList(t, "L2: mended too late", slices.Collect(order))
	order = Order(d)
	var got []int
	for i := range order {
		got = append(got, i)
		d.Steps[1].Needs = nil
		d.Steps[1].Kind = api.Retriable
	}
	isList(t, "L2: changed within the loop", got, 0, 1, 2, 3)
	isList(t, "L2: changed ahead of Order", slices.Collect(Order(d)), 0, 2, 1, 3)
}

// TestNotShared: R5 of what is handed in and of what is handed out.
func TestNotShared(t *testing.T) {
	spare := []int{0, 7, 9}
	d := trip(t)
	d.Steps[1].Needs = spare[:1]
	whole := trip(t)
	states := []int{2, 2, 0, 0, 8}
	ask := map[string]func() []int{
		"Ahead":  func() []int { return Ahead(d, 3) },
		"Behind": func() []int { return Behind(d, 0) },
		"Order":  func() []int { return slices.Collect(Order(d)) },
		"Ready":  func() []int { return Ready(d, states[:4]) },
		"Undo":   func() []int { return Undo(d, states[:4]) },
	}
	for what, call := range ask {
		first := call()
		want := slices.Clone(first)
		if len(first) == 0 {
			t.Fatalf("%s tells nothing", what)
		}
		second := call()
		room := first[:cap(first)]
		for i := range room {
			room[i] = -5
		}
		isList(t, "R5: "+what+" shares two answers", second, want...)
		isList(t, "R5: "+what+" keeps its answer", call(), want...)
		if !reflect.DeepEqual(d, whole) || !slices.Equal(spare, []int{0, 7, 9}) || !slices.Equal(states, []int{2, 2, 0, 0, 8}) {
			t.Fatalf("R5: %s changed what it was given: %v, %v, %v", what, d, spare, states)
		}
	}
	isList(t, "R6: Ready", Ready(d, states[:4]), 2)
	states[1] = 1
	isList(t, "R6: Ready, states changed", Ready(d, states[:4]))
	d.Steps[1].Needs = nil
	isList(t, "R6: Ahead, needs changed", Ahead(d, 1))
}
