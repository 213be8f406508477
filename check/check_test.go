package check

import (
	"math"
	"reflect"
	"slices"
	"strings"
	"testing"

	"odyssey/api"
)

const (
	comp  = api.Compensatable
	pivot = api.Pivot
	ever  = api.Retriable
)

// step has no keys, and the participant 0.
func step(name string, kind int, needs ...int) api.Step {
	return api.Step{Name: name, Kind: kind, Needs: needs}
}

func keyed(name string, kind, part int, keys ...string) api.Step {
	return api.Step{Name: name, Kind: kind, Part: part, Keys: keys}
}

func of(steps ...api.Step) api.Def { return api.Def{Name: "a", Steps: steps} }

// row is a definition of n steps of the kind, with names of their own.
func row(n, kind int) api.Def {
	d := api.Def{Name: "a"}
	for i := range n {
		d.Steps = append(d.Steps, step("s"+string(rune('a'+i)), kind))
	}
	return d
}

type example struct {
	what string
	d    api.Def
	step int
	err  api.Errno
}

func runExamples(t *testing.T, examples []example) {
	t.Helper()
	for _, x := range examples {
		if i, err := Check(x.d); i != x.step || err != x.err {
			t.Errorf("P11.1: %s: %d, %d, want %d, %d", x.what, i, err, x.step, x.err)
		}
		if i, err := slowCheck(x.d); i != x.step || err != x.err {
			t.Errorf("%s: the likeness says %d, %d, want %d, %d", x.what, i, err, x.step, x.err)
		}
	}
}

func TestExamples(t *testing.T) {
	room := keyed("b", comp, 1, "room")
	runExamples(t, []example{
		{"one step with its key", of(room), -1, api.OK},
		{"the key of another", of(keyed("b", comp, 0, "room")), 0, api.ErrCheckKey},
		{"no steps", of(), -1, api.ErrCheckSteps},
		{"a ring of two", of(step("b", comp, 1), step("c", comp, 0)), 0, api.ErrCheckRing},
		{"compensatable behind the pivot", of(step("b", comp), step("p", pivot, 0), step("c", comp, 1)), 2, api.ErrCheckOrder},
		{"two pivots", of(step("p", pivot), step("b", comp), step("c", comp), step("q", pivot)), 3, api.ErrCheckPivot},
		{"a retriable step with a key alone", of(keyed("b", ever, 1, "room")), 0, api.ErrCheckKey},
		{"beside one that has it", of(room, keyed("c", ever, 1, "room")), -1, api.OK},
		{"ahead of one that has it", of(keyed("c", ever, 1, "room"), room), -1, api.OK},
	})
}

func TestWhole(t *testing.T) {
	good := row(1, comp).Steps
	nine := row(9, comp)
	bad := nine
	bad.Name = "A"
	runExamples(t, []example{
		{"nothing", api.Def{}, -1, api.ErrCheckName},
		{"no name and good steps", api.Def{Steps: good}, -1, api.ErrCheckName},
		{"a name of 8 runes", api.Def{Name: "ßßßßßßßß", Steps: good}, -1, api.OK},
		{"a name of 9 runes", api.Def{Name: "abcdefghi", Steps: good}, -1, api.ErrCheckName},
		{"a great letter", api.Def{Name: "A", Steps: good}, -1, api.ErrCheckName},
		{"a byte that begins no rune", api.Def{Name: "a\xff", Steps: good}, -1, api.ErrCheckName},
		{"a digit first", api.Def{Name: "1a", Steps: good}, -1, api.ErrCheckName},
		{"a long text", api.Def{Name: strings.Repeat("a", 100000), Steps: good}, -1, api.ErrCheckName},
		{"no name, no steps", api.Def{Name: "-", Steps: nil}, -1, api.ErrCheckName},
		{"no name, nine steps", bad, -1, api.ErrCheckName},
		{"an empty list of steps", api.Def{Name: "a", Steps: []api.Step{}}, -1, api.ErrCheckSteps},
		{"eight steps", row(8, comp), -1, api.OK},
		{"nine steps", nine, -1, api.ErrCheckSteps},
		{"a thousand wrong steps", api.Def{Name: "a", Steps: make([]api.Step, 1000)}, -1, api.ErrCheckSteps},
	})
}

func TestNames(t *testing.T) {
	runExamples(t, []example{
		{"a step of zero values", of(api.Step{}), 0, api.ErrCheckName},
		{"the second step's name", of(step("b", comp), step("B", comp)), 1, api.ErrCheckName},
		{"a step named as its definition", of(step("a", comp)), -1, api.OK},
		{"names of 8 and 9 runes", of(step("abcdefgh", comp), step("abcdefghi", comp)), 1, api.ErrCheckName},
		{"twice, side by side", of(step("b", comp), step("b", comp)), 1, api.ErrCheckTwice},
		{"twice, first and last", of(step("b", comp), step("c", comp), step("b", comp)), 2, api.ErrCheckTwice},
		{"three times", of(step("b", comp), step("c", comp), step("c", comp), step("c", comp)), 2, api.ErrCheckTwice},
		{"names that begin alike", of(step("b", comp), step("bb", comp)), -1, api.OK},
		{"no name, twice", of(step("b", comp), step("", comp), step("", comp)), 1, api.ErrCheckName},
	})
}

func TestKindsAndParts(t *testing.T) {
	for _, kind := range []int{math.MinInt, -1, 0, 4, 257, math.MaxInt} {
		runExamples(t, []example{
			{"a wrong kind", of(step("b", kind)), 0, api.ErrCheckKind},
			{"a wrong kind at the end", of(step("b", comp), step("c", kind)), 1, api.ErrCheckKind},
		})
	}
	for _, kind := range []int{comp, pivot, ever} {
		runExamples(t, []example{{"a kind", of(step("b", kind)), -1, api.OK}})
	}
	for _, part := range []int{math.MinInt, -1, 4, 5, 256, math.MaxInt} {
		runExamples(t, []example{
			{"a wrong participant", of(keyed("b", comp, part)), 0, api.ErrCheckPart},
			{"a wrong participant at the end", of(step("b", comp), keyed("c", ever, part)), 1, api.ErrCheckPart},
		})
	}
	for part := range 4 {
		runExamples(t, []example{{"a participant", of(keyed("b", comp, part)), -1, api.OK}})
	}
}

func TestKeys(t *testing.T) {
	runExamples(t, []example{
		{"an empty list", of(api.Step{Name: "b", Kind: comp, Keys: []string{}}), -1, api.OK},
		{"two keys", of(keyed("b", comp, 1, "a", "room")), -1, api.OK},
		{"three keys", of(keyed("b", comp, 1, "a", "e", "room")), 0, api.ErrCheckKey},
		{"two keys, falling", of(keyed("b", comp, 1, "room", "a")), 0, api.ErrCheckKey},
		{"one key twice", of(keyed("b", comp, 1, "room", "room")), 0, api.ErrCheckKey},
		{"the first is no name", of(keyed("b", comp, 1, "A", "a")), 0, api.ErrCheckKey},
		{"the second is no name", of(keyed("b", comp, 1, "a", "e+")), 0, api.ErrCheckKey},
		{"an empty key", of(keyed("b", comp, 0, "")), 0, api.ErrCheckKey},
		{"the first belongs to another", of(keyed("b", comp, 1, "b", "e")), 0, api.ErrCheckKey},
		{"the second belongs to another", of(keyed("b", comp, 1, "a", "b")), 0, api.ErrCheckKey},
		{"both belong to another", of(keyed("b", comp, 2, "a", "e")), 0, api.ErrCheckKey},
		{"runes, rising", of(keyed("b", comp, 1, "z---", "α")), -1, api.OK},
		{"runes, falling", of(keyed("b", comp, 1, "α", "z---")), 0, api.ErrCheckKey},
		{"a short key ahead of a longer one", of(keyed("b", comp, 1, "e", "eä")), -1, api.OK},
		{"a key of two compensatable steps", of(keyed("b", comp, 1, "a"), keyed("c", comp, 1, "a")), -1, api.OK},
		{"a key of a compensatable step and the pivot", of(keyed("b", comp, 1, "a"), keyed("c", pivot, 1, "a")), -1, api.OK},
		{"many keys", of(api.Step{Name: "b", Kind: comp, Keys: make([]string, 10000)}), 0, api.ErrCheckKey},
	})
}

func TestNeeds(t *testing.T) {
	three := func(needs ...int) api.Def {
		return of(step("b", comp), step("c", comp, needs...), step("d", comp))
	}
	runExamples(t, []example{
		{"an empty list", three([]int{}...), -1, api.OK},
		{"the one ahead", three(0), -1, api.OK},
		{"the one behind", three(2), -1, api.OK},
		{"both", three(0, 2), -1, api.OK},
		{"both, falling", three(2, 0), 1, api.ErrCheckNeed},
		{"one twice", three(0, 0), 1, api.ErrCheckNeed},
		{"itself", three(1), 1, api.ErrCheckNeed},
		{"itself too", three(0, 1, 2), 1, api.ErrCheckNeed},
		{"below all", three(-1), 1, api.ErrCheckNeed},
		{"above all", three(3), 1, api.ErrCheckNeed},
		{"above all, at the end", three(0, 2, 3), 1, api.ErrCheckNeed},
		{"the least number", three(math.MinInt, 0), 1, api.ErrCheckNeed},
		{"the greatest number", three(0, math.MaxInt), 1, api.ErrCheckNeed},
		{"alone, itself", of(step("b", comp, 0)), 0, api.ErrCheckNeed},
		{"alone, another", of(step("b", comp, 1)), 0, api.ErrCheckNeed},
		{"many", three(make([]int, 10000)...), 1, api.ErrCheckNeed},
		{"more than 8 steps have", of(step("b", ever, 1, 2, 3, 4, 5, 6, 7, 8, 9, 10)), 0, api.ErrCheckNeed},
	})
}

func TestPivots(t *testing.T) {
	runExamples(t, []example{
		{"none", row(8, comp), -1, api.OK},
		{"all", row(8, pivot), 1, api.ErrCheckPivot},
		{"side by side", of(step("b", comp), step("p", pivot), step("q", pivot)), 2, api.ErrCheckPivot},
		{"three", of(step("p", pivot), step("b", comp), step("q", pivot), step("r", pivot)), 2, api.ErrCheckPivot},
		{"one, at the end", of(step("b", comp), step("c", ever), step("p", pivot)), -1, api.OK},
	})
}

func TestOrder(t *testing.T) {
	pair := func(kind, needed int) api.Def { return of(step("b", kind, 1), step("c", needed)) }
	runExamples(t, []example{
		{"compensatable needs compensatable", pair(comp, comp), -1, api.OK},
		{"compensatable needs the pivot", pair(comp, pivot), 0, api.ErrCheckOrder},
		{"compensatable needs retriable", pair(comp, ever), 0, api.ErrCheckOrder},
		{"the pivot needs compensatable", pair(pivot, comp), -1, api.OK},
		{"the pivot needs retriable", pair(pivot, ever), 0, api.ErrCheckOrder},
		{"retriable needs compensatable", pair(ever, comp), -1, api.OK},
		{"retriable needs the pivot", pair(ever, pivot), -1, api.OK},
		{"retriable needs retriable", pair(ever, ever), -1, api.OK},
		{"the last of several", of(step("b", comp), step("c", comp), step("d", ever), step("e", comp, 0, 1, 2)), 3, api.ErrCheckOrder},
		{"the first of several", of(step("d", ever), step("c", comp), step("e", comp, 0, 1)), 2, api.ErrCheckOrder},
	})
}

func TestRings(t *testing.T) {
	runExamples(t, []example{
		{"a ring that the first step only leads into", of(step("b", comp, 1), step("c", comp, 2), step("d", comp, 1)), 1, api.ErrCheckRing},
		{"a ring that the last step only leads into", of(step("b", comp, 1), step("c", comp, 0), step("d", comp, 0)), 0, api.ErrCheckRing},
		{"a ring that only leads out", of(step("b", comp), step("c", comp, 0, 2), step("d", comp, 1)), 1, api.ErrCheckRing},
		{"a ring of retriable steps", of(step("b", comp), step("c", ever, 2), step("d", ever, 1)), 1, api.ErrCheckRing},
		{"two rings", of(step("b", ever, 3), step("c", ever, 2), step("d", ever, 1), step("e", ever, 4), step("f", ever, 3)), 1, api.ErrCheckRing},
		{"the ring lies behind a dead end", of(step("b", comp, 1, 2), step("c", comp), step("d", comp, 0)), 0, api.ErrCheckRing},
		{"two ways to one step", of(step("b", comp, 1, 2), step("c", comp, 3), step("d", comp, 3), step("e", comp)), -1, api.OK},
	})
	for n := 2; n <= 8; n++ {
		d := row(n, comp)
		for i := range n {
			d.Steps[i].Needs = []int{(i + 1) % n}
		}
		runExamples(t, []example{{"a ring of all", d, 0, api.ErrCheckRing}})
		d.Steps[n-1].Needs = nil
		runExamples(t, []example{{"a chain of all", d, -1, api.OK}})
	}
	all := row(8, ever)
	for i := range all.Steps {
		for k := range 8 {
			if k != i {
				all.Steps[i].Needs = append(all.Steps[i].Needs, k)
			}
		}
	}
	runExamples(t, []example{{"each needs all others", all, 0, api.ErrCheckRing}})
	for i := range all.Steps {
		all.Steps[i].Needs = all.Steps[i].Needs[:i]
	}
	runExamples(t, []example{{"each needs all ahead", all, -1, api.OK}})
}

func TestLateKeys(t *testing.T) {
	runExamples(t, []example{
		{"a key of the pivot", of(keyed("p", pivot, 1, "a"), keyed("c", ever, 1, "a")), -1, api.OK},
		{"a key of another retriable step", of(keyed("b", ever, 1, "a"), keyed("c", ever, 1, "a")), 0, api.ErrCheckKey},
		{"the first key only", of(keyed("b", comp, 1, "a"), keyed("c", ever, 1, "a", "e")), 1, api.ErrCheckKey},
		{"the second key only", of(keyed("b", comp, 1, "e"), keyed("c", ever, 1, "a", "e")), 1, api.ErrCheckKey},
		{"both, of two steps", of(keyed("b", comp, 1, "a"), keyed("c", ever, 1, "a", "e"), keyed("p", pivot, 1, "e")), -1, api.OK},
		{"the second of two retriable steps", of(keyed("b", comp, 1, "a"), keyed("c", ever, 1, "a"), keyed("d", ever, 2, "b")), 2, api.ErrCheckKey},
		{"a key of the same participant", of(keyed("b", comp, 1, "a"), keyed("c", ever, 1, "e")), 1, api.ErrCheckKey},
		{"no need between them", of(keyed("c", ever, 1, "e"), keyed("b", comp, 1, "a", "e")), -1, api.OK},
	})
}

// TestFirst holds each fault against each that is asked for later: in one step, in a later step, in an earlier step.
func TestFirst(t *testing.T) {
	inStep := []struct {
		err   api.Errno
		spoil func(s *api.Step)
	}{
		{api.ErrCheckName, func(s *api.Step) { s.Name = "A" }},
		{api.ErrCheckTwice, func(s *api.Step) { s.Name = "twice" }},
		{api.ErrCheckKind, func(s *api.Step) { s.Kind = 0 }},
		{api.ErrCheckPart, func(s *api.Step) { s.Part = 4 }},
		{api.ErrCheckKey, func(s *api.Step) { s.Keys = []string{"A"} }},
		{api.ErrCheckNeed, func(s *api.Step) { s.Needs = []int{9} }},
	}
	base := func() api.Def {
		return of(step("twice", comp), step("b", comp), step("c", comp), step("d", ever))
	}
	for i, x := range inStep {
		for k, y := range inStep {
			d := base()
			x.spoil(&d.Steps[2])
			y.spoil(&d.Steps[3])
			runExamples(t, []example{{"in two steps", d, 2, x.err}})
			// A name can't be wrong by itself and twice: a wrong one ahead is told first.
			if k <= i || y.err == api.ErrCheckTwice {
				continue
			}
			d = base()
			x.spoil(&d.Steps[1])
			y.spoil(&d.Steps[1])
			runExamples(t, []example{{"in one step", d, 1, x.err}})
		}
		d := base()
		x.spoil(&d.Steps[3])
		d.Steps[0].Needs, d.Steps[1].Needs = []int{1}, []int{0}
		runExamples(t, []example{{"of a step, and a ring ahead of it", d, 3, x.err}})
	}
	late := keyed("k", ever, 1, "a")
	runExamples(t, []example{
		{"a pivot, an order", of(step("b", comp, 1), step("p", pivot), step("q", pivot)), 2, api.ErrCheckPivot},
		{"a pivot, a ring", of(step("b", comp, 1), step("c", comp, 0), step("p", pivot), step("q", pivot)), 3, api.ErrCheckPivot},
		{"a pivot, a late key", of(late, step("p", pivot), step("q", pivot)), 2, api.ErrCheckPivot},
		{"an order, a ring", of(step("b", comp, 1), step("c", comp, 0), step("d", ever), step("e", comp, 2)), 3, api.ErrCheckOrder},
		{"an order in a ring", of(step("b", ever, 1), step("c", comp, 0)), 1, api.ErrCheckOrder},
		{"an order, a late key", of(late, step("b", comp, 0)), 1, api.ErrCheckOrder},
		{"a ring, a late key", of(late, step("b", comp, 2), step("c", comp, 1)), 1, api.ErrCheckRing},
	})
}

// TestNotChanged: R5, with room behind each list that must stay as it is.
func TestNotChanged(t *testing.T) {
	fresh := func() api.Def {
		keys := []string{"a", "room", "spare"}
		needs := []int{0, 2, 7, 9}
		steps := []api.Step{keyed("b", comp, 1, keys[:2]...), step("c", ever, needs[:2]...), step("d", pivot, 0), step("spare", 9)}
		steps[0].Keys = keys[:2]
		return api.Def{Name: "a", Steps: steps[:3]}
	}
	for range 2 {
		d := fresh()
		if i, err := Check(d); i != -1 || err != api.OK {
			t.Errorf("P11.1: %d, %d, want -1, 0", i, err)
		}
		whole := func(d api.Def) []any {
			return []any{d.Name, d.Steps[:4], d.Steps[0].Keys[:3], d.Steps[1].Needs[:4]}
		}
		if !reflect.DeepEqual(whole(d), whole(fresh())) {
			t.Errorf("R5: Check changed what it was given: %v", whole(d))
		}
	}
	d := fresh()
	Check(d)
	d.Steps[1].Needs[0] = 1
	if i, err := Check(d); i != 1 || err != api.ErrCheckNeed {
		t.Errorf("R6: behind a change: %d, %d, want 1, %d", i, err, api.ErrCheckNeed)
	}
	if !slices.Equal(d.Steps[1].Needs, []int{1, 2}) {
		t.Errorf("R5: Check changed the needs: %v", d.Steps[1].Needs)
	}
}
