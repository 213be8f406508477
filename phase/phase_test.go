package phase

import (
	"math"
	"reflect"
	"slices"
	"strings"
	"testing"

	"odyssey/api"
	"odyssey/check"
	"odyssey/def"
)

func read(t *testing.T, text string) api.Def {
	t.Helper()
	d, clause, err := def.Parse(text)
	if err != api.OK {
		t.Fatalf("%q: the clause %d is wrong: %d", text, clause, err)
	}
	if i, err := check.Check(d); err != api.OK {
		t.Fatalf("%q: the step %d is wrong: %d", text, i, err)
	}
	return d
}

// inst is an instance of the id 5, with what all of these tests have.
func inst(d api.Def, phase, cause int, steps ...int) api.Inst {
	return api.Inst{Id: 5, Key: "k", Name: d.Name, Version: 1, Phase: phase, Cause: cause, Steps: steps}
}

func freed(x api.Inst, parts ...int) api.Inst {
	for _, part := range parts {
		x.Freed[part] = 1
	}
	return x
}

func note(kind int) api.Note     { return api.Note{Kind: kind, Inst: 5} }
func issue(i int) api.Note       { return api.Note{Kind: api.NoteIssue, Inst: 5, Step: i} }
func mark(i, state int) api.Note { return api.Note{Kind: api.NoteMark, Inst: 5, Step: i, State: state} }
func freeOf(part int) api.Note   { return api.Note{Kind: api.NoteFreed, Inst: 5, Part: part} }
func ended(phase, cause int) api.Note {
	return api.Note{Kind: api.NoteBrief, Inst: 5, State: phase, Cause: cause}
}

func sameInst(a, b api.Inst) bool {
	steps := slices.Equal(a.Steps, b.Steps)
	a.Steps, b.Steps = nil, nil
	return steps && reflect.DeepEqual(a, b)
}

func mustStart(t *testing.T, d api.Def) api.Inst {
	t.Helper()
	x, err := Start(d, 5, "k", 1)
	if err != api.OK || !Valid(d, x) {
		t.Fatalf("P19.1: Start of %v = %v, %d", d, x, err)
	}
	return x
}

func mustOn(t *testing.T, what string, d api.Def, x api.Inst, n api.Note, want api.Inst) {
	t.Helper()
	if got, err := On(d, x, n); err != api.OK || !sameInst(got, want) {
		t.Errorf("%s: %v behind %v = %v, %d, want %v", what, x, n, got, err, want)
	}
	if !Valid(d, want) {
		t.Errorf("P19.7: %v of %v may not be", want, d)
	}
}

func mustNotOn(t *testing.T, what string, d api.Def, x api.Inst, want api.Errno, notes ...api.Note) {
	t.Helper()
	for _, n := range notes {
		if got, err := On(d, x, n); err != want || !sameInst(got, api.Inst{}) {
			t.Errorf("%s: %v behind %v = %v, %d, want %d", what, x, n, got, err, want)
		}
	}
}

func mustNext(t *testing.T, what string, d api.Def, x api.Inst, want ...api.Note) {
	t.Helper()
	if got := Next(d, x); !slices.Equal(got, want) {
		t.Errorf("%s: Next of %v = %v, want %v", what, x, got, want)
	}
}

func mustWant(t *testing.T, what string, d api.Def, x api.Inst, want ...api.Letter) {
	t.Helper()
	if got := Wants(d, x); !slices.EqualFunc(got, want, sameLetter) {
		t.Errorf("%s: Wants of %v = %v, want %v", what, x, got, want)
	}
}

func sameLetter(a, b api.Letter) bool {
	keys := slices.Equal(a.Keys, b.Keys)
	a.Keys, b.Keys = nil, nil
	return keys && reflect.DeepEqual(a, b)
}

// mustTell wants these notes, and that they make the instance what it is.
func mustTell(t *testing.T, what string, d api.Def, x api.Inst, want ...api.Note) {
	t.Helper()
	got := Notes(d, x)
	if !slices.Equal(got, want) {
		t.Errorf("%s: Notes of %v = %v, want %v", what, x, got, want)
	}
	mustMake(t, d, x, got)
}

func mustMake(t *testing.T, d api.Def, x api.Inst, notes []api.Note) {
	t.Helper()
	y, err := Start(d, x.Id, x.Key, x.Version)
	for _, n := range notes {
		if err != api.OK {
			break
		}
		y, err = On(d, y, n)
	}
	if err != api.OK || !sameInst(x, y) {
		t.Errorf("P19.7: %v of %v: its notes %v make %v, %d", x, d, notes, y, err)
	}
}

func mustBe(t *testing.T, what string, d api.Def, want bool, insts ...api.Inst) {
	t.Helper()
	for _, x := range insts {
		if got := Valid(d, x); got != want {
			t.Errorf("%s: Valid of %v = %t", what, x, got)
		}
		if !want {
			mustNotOn(t, what, d, x, api.ErrArg, note(api.NoteCancel), issue(0), mark(0, api.StepDone), mark(0, api.StepUndone), note(api.NoteEnd), freeOf(0), ended(api.Committed, 0))
			mustNext(t, "P19.3", d, x)
			mustWant(t, "P19.4", d, x)
			if got := Notes(d, x); len(got) != 0 {
				t.Errorf("P19.5: Notes of %v = %v", x, got)
			}
		}
	}
}

// wrongDefs are definitions that may not be.
func wrongDefs() []api.Def {
	long := strings.Repeat("a", 9)
	step := api.Step{Name: "b", Kind: api.Compensatable}
	return []api.Def{
		{},
		{Name: "a"},
		{Name: "", Steps: []api.Step{step}},
		{Name: long, Steps: []api.Step{step}},
		{Name: "a", Steps: []api.Step{step, step}},
		{Name: "a", Steps: []api.Step{{Name: "b"}}},
		{Name: "a", Steps: []api.Step{{Name: "b", Kind: 4}}},
		{Name: "a", Steps: []api.Step{{Name: "b", Kind: -1}}},
		{Name: "a", Steps: []api.Step{{Name: "b", Kind: 1, Part: 4}}},
		{Name: "a", Steps: []api.Step{{Name: "b", Kind: 1, Part: -1}}},
		{Name: "a", Steps: []api.Step{{Name: "b", Kind: 1, Keys: []string{"room"}}}},
		{Name: "a", Steps: []api.Step{{Name: "b", Kind: 1, Needs: []int{0}}}},
		{Name: "a", Steps: []api.Step{{Name: "b", Kind: 1, Needs: []int{1 << 40}}}},
		{Name: "a", Steps: make([]api.Step, 9)},
		{Name: "a", Steps: []api.Step{{Name: "b", Kind: 3, Part: 1, Keys: []string{"room"}}}},
	}
}

func TestExample1(t *testing.T) {
	d := read(t, "a; do b @0; pivot p @1; ever e @2")
	x := mustStart(t, d)
	if want := inst(d, api.Forward, 0, 0, 0, 0); !sameInst(x, want) {
		t.Errorf("P19.1: %v, want %v", x, want)
	}
	mustNext(t, "P19.3", d, x, issue(0))
	mustWant(t, "P19.4", d, x)
	rows := []struct {
		by    api.Note
		to    api.Inst
		next  []api.Note
		wants []api.Letter
	}{
		{issue(0), inst(d, api.Forward, 0, 1, 0, 0), nil, []api.Letter{{Kind: api.LetterDo, Inst: 5, Sort: api.Compensatable}}},
		{mark(0, api.StepDone), inst(d, api.Forward, 0, 2, 0, 0), []api.Note{issue(1)}, nil},
		{issue(1), inst(d, api.Sealed, 0, 2, 1, 0), nil, []api.Letter{{Kind: api.LetterDo, Part: 1, Inst: 5, Step: 1, Sort: api.Pivot}}},
		{mark(1, api.StepNo), inst(d, api.Backward, api.CauseRefused, 2, 3, 0), nil, []api.Letter{{Kind: api.LetterUndo, Inst: 5}}},
		{mark(0, api.StepUndone), inst(d, api.Backward, api.CauseRefused, 5, 3, 0), []api.Note{note(api.NoteEnd)}, nil},
		{note(api.NoteEnd), inst(d, api.Aborted, api.CauseRefused, 5, 3, 0), nil, []api.Letter{{Kind: api.LetterFree, Inst: 5}, {Kind: api.LetterFree, Part: 1, Inst: 5}, {Kind: api.LetterFree, Part: 2, Inst: 5}}},
		{freeOf(1), freed(inst(d, api.Aborted, api.CauseRefused, 5, 3, 0), 1), nil, []api.Letter{{Kind: api.LetterFree, Inst: 5}, {Kind: api.LetterFree, Part: 2, Inst: 5}}},
		{freeOf(0), freed(inst(d, api.Aborted, api.CauseRefused, 5, 3, 0), 0, 1), nil, []api.Letter{{Kind: api.LetterFree, Part: 2, Inst: 5}}},
		{freeOf(2), inst(d, api.Aborted, api.CauseRefused), nil, nil},
	}
	for at, row := range rows {
		mustOn(t, "P19.2", d, x, row.by, row.to)
		x = row.to
		mustNext(t, "P19.3", d, x, row.next...)
		mustWant(t, "P19.4", d, x, row.wants...)
		if last := at == len(rows)-1; Closed(x) != last {
			t.Errorf("P19.6: Closed of %v = %t", x, !last)
		}
		mustMake(t, d, x, Notes(d, x))
	}
}

func TestExample2(t *testing.T) {
	d := read(t, "a; do b @0; pivot p @1; ever e @2")
	sealed := inst(d, api.Sealed, 0, 2, 1, 0)
	mustNotOn(t, "P19.7", d, sealed, api.ErrPhaseEvent, note(api.NoteCancel), note(api.NoteLate), note(api.NoteEnd), issue(2), mark(0, api.StepUndone), mark(1, api.StepUndone))
	x := inst(d, api.Completing, 0, 2, 2, 0)
	mustOn(t, "P19.2", d, sealed, mark(1, api.StepDone), x)
	mustNext(t, "P19.3", d, x, issue(2))
	mustNotOn(t, "P19.7", d, x, api.ErrPhaseEvent, note(api.NoteCancel), note(api.NoteLate), note(api.NoteEnd))
	moving := inst(d, api.Completing, 0, 2, 2, 1)
	mustOn(t, "P19.2", d, x, issue(2), moving)
	mustWant(t, "P19.4", d, moving, api.Letter{Kind: api.LetterDo, Part: 2, Inst: 5, Step: 2, Sort: api.Retriable})
	mustNotOn(t, "P19.2", d, moving, api.ErrPhaseEvent, mark(2, api.StepNo), mark(2, api.StepBusy), mark(2, api.StepUndone), note(api.NoteEnd), note(api.NoteCancel))
	over := inst(d, api.Completing, 0, 2, 2, 2)
	mustOn(t, "P19.2", d, moving, mark(2, api.StepDone), over)
	mustNext(t, "P19.3", d, over, note(api.NoteEnd))
	mustWant(t, "P19.4", d, over)
	mustOn(t, "P19.2", d, over, note(api.NoteEnd), inst(d, api.Committed, 0, 2, 2, 2))
}

func TestExample3(t *testing.T) {
	d := read(t, "a; do b @0; do c @0")
	x := mustStart(t, d)
	mustNext(t, "P19.3", d, x, issue(0), issue(1))
	x = inst(d, api.Forward, 0, 2, 1)
	back := inst(d, api.Backward, api.CauseCancel, 2, 1)
	mustOn(t, "P19.2", d, x, note(api.NoteCancel), back)
	mustOn(t, "P19.2", d, x, note(api.NoteLate), inst(d, api.Backward, api.CauseLate, 2, 1))
	mustOn(t, "P19.2", d, back, mark(1, api.StepDone), inst(d, api.Backward, api.CauseCancel, 2, 2))
	for _, y := range []api.Inst{back, inst(d, api.Backward, api.CauseCancel, 2, 2)} {
		mustWant(t, "P19.4", d, y, api.Letter{Kind: api.LetterUndo, Inst: 5}, api.Letter{Kind: api.LetterUndo, Inst: 5, Step: 1})
		mustNext(t, "P19.3", d, y)
	}
}

func TestStart(t *testing.T) {
	for text, phase := range map[string]int{
		"a; do b @0":                        api.Forward,
		"a; pivot b @0":                     api.Forward,
		"a; ever b @0":                      api.Completing,
		"a; ever b @0; ever c @1":           api.Completing,
		"a; ever b @0; do c @1":             api.Forward,
		"a; ever b @0; pivot c @1":          api.Forward,
		"a; do b @0; pivot c @1; ever d @3": api.Forward,
	} {
		d := read(t, text)
		for _, id := range []int{1, 2, 59, 60} {
			for _, version := range []int{1, 2, 15, 16} {
				for _, key := range []string{"k", "zug-1", "ωωωωωωωω", "abcdefgh"} {
					want := api.Inst{Id: id, Key: key, Name: "a", Version: version, Phase: phase, Steps: make([]int, len(d.Steps))}
					if x, err := Start(d, id, key, version); err != api.OK || !sameInst(x, want) || !Valid(d, x) {
						t.Errorf("P19.1: %q: Start(%d, %q, %d) = %v, %d", text, id, key, version, x, err)
					}
				}
			}
		}
	}
}

func mustNotStart(t *testing.T, d api.Def, id int, key string, version int) {
	t.Helper()
	if x, err := Start(d, id, key, version); err != api.ErrArg || !sameInst(x, api.Inst{}) {
		t.Errorf("P19.1: Start(%v, %d, %q, %d) = %v, %d", d, id, key, version, x, err)
	}
}

func TestStartOfWrongThings(t *testing.T) {
	d := read(t, "a; do b @0")
	for _, id := range []int{math.MinInt, -1, 0, 61, 1 << 32, 1<<32 + 1, math.MaxInt} {
		mustNotStart(t, d, id, "k", 1)
	}
	for _, version := range []int{math.MinInt, -1, 0, 17, 1 << 32, 1<<32 + 1, math.MaxInt} {
		mustNotStart(t, d, 1, "k", version)
	}
	for _, key := range []string{"", "K", "1", "-", "abcdefghi", "a b", "ñ", "\xff", "a\xff", strings.Repeat("k", 100000)} {
		mustNotStart(t, d, 1, key, 1)
	}
	for _, d := range wrongDefs() {
		mustNotStart(t, d, 1, "k", 1)
		mustNotStart(t, d, 0, "", 0)
	}
}

func TestWrongDefs(t *testing.T) {
	for _, d := range wrongDefs() {
		insts := []api.Inst{{}, inst(d, api.Forward, 0, 0), inst(d, api.Forward, 0), inst(d, api.Committed, 0), inst(d, api.Aborted, 1), inst(d, api.Backward, 1, 2), inst(d, api.Forward, 0, make([]int, len(d.Steps))...)}
		mustBe(t, "P19.1", d, false, insts...)
	}
}

// TestFieldsOfAll: what is asked of each instance, of briefs too.
func TestFieldsOfAll(t *testing.T) {
	d := read(t, "a; do b @0; pivot p @1; ever e @2")
	other := read(t, "b; do b @0; pivot p @1; ever e @2")
	good := []api.Inst{inst(d, api.Forward, 0, 1, 0, 0), inst(d, api.Committed, 0, 2, 2, 2), inst(d, api.Aborted, 2, 5, 0, 0), inst(d, api.Committed, 0), inst(d, api.Aborted, 4)}
	mustBe(t, "P19.1", d, true, good...)
	mustBe(t, "P19.1", other, false, good...)
	for _, x := range good {
		wrong := func(change func(y *api.Inst)) {
			t.Helper()
			y := x
			change(&y)
			mustBe(t, "P19.1", d, false, y)
		}
		for _, id := range []int{math.MinInt, -1, 0, 61, 1<<32 + 5, math.MaxInt} {
			wrong(func(y *api.Inst) { y.Id = id })
		}
		for _, version := range []int{math.MinInt, -1, 0, 17, 1<<32 + 1, math.MaxInt} {
			wrong(func(y *api.Inst) { y.Version = version })
		}
		for _, key := range []string{"", "K", "abcdefghi", "\xff"} {
			wrong(func(y *api.Inst) { y.Key = key })
		}
		for _, name := range []string{"", "b", "A", "aa", "a\x00"} {
			wrong(func(y *api.Inst) { y.Name = name })
		}
		for _, phase := range []int{math.MinInt, -1, 0, 7, 1<<32 + 1, math.MaxInt} {
			wrong(func(y *api.Inst) { y.Phase = phase })
		}
		for _, cause := range []int{math.MinInt, -1, 5, 1 << 32, math.MaxInt} {
			wrong(func(y *api.Inst) { y.Cause = cause })
		}
		for part := range api.Parts {
			for _, count := range []int{math.MinInt, -1, 2, 1 << 32, math.MaxInt} {
				wrong(func(y *api.Inst) { y.Freed[part] = count })
			}
		}
		wrong(func(y *api.Inst) { y.Steps = make([]int, 2) })
		wrong(func(y *api.Inst) { y.Steps = make([]int, 4) })
		wrong(func(y *api.Inst) { y.Steps = make([]int, 1<<20) })
		for i := range x.Steps {
			for _, state := range []int{math.MinInt, -64, -1, 6, 64, 66, 1<<32 + 2, math.MaxInt} {
				wrong(func(y *api.Inst) { y.Steps = slices.Clone(x.Steps); y.Steps[i] = state })
			}
		}
	}
}

func TestBriefs(t *testing.T) {
	for _, text := range []string{"a; do b @0", "a; ever b @1", "a; do b @0; pivot p @1; ever e @2"} {
		d := read(t, text)
		good := []api.Inst{inst(d, api.Committed, 0), inst(d, api.Aborted, 1), inst(d, api.Aborted, 2), inst(d, api.Aborted, 3), inst(d, api.Aborted, 4)}
		mustBe(t, "P19.1", d, true, good...)
		for _, x := range good {
			mustTell(t, "P19.5", d, x, ended(x.Phase, x.Cause))
			mustNext(t, "P19.3", d, x)
			mustWant(t, "P19.4", d, x)
			mustNotOn(t, "P19.2", d, x, api.ErrPhaseEvent, note(api.NoteCancel), note(api.NoteLate), issue(0), mark(0, 2), mark(0, 3), mark(0, 4), mark(0, 5), note(api.NoteEnd), freeOf(0), freeOf(1), freeOf(3), ended(api.Committed, 0), ended(api.Aborted, 1))
			mustOn(t, "P19.2", d, mustStart(t, d), ended(x.Phase, x.Cause), x)
			x.Steps = []int{}
			mustBe(t, "P19.1", d, true, x)
			for part := range api.Parts {
				mustBe(t, "P19.1", d, false, freed(x, part))
			}
		}
		mustBe(t, "P19.1", d, false, inst(d, api.Committed, 1), inst(d, api.Aborted, 0), inst(d, api.Aborted, 5), inst(d, api.Aborted, -1))
		for _, phase := range []int{0, api.Forward, api.Sealed, api.Completing, api.Backward, 7} {
			mustBe(t, "P19.1", d, false, inst(d, phase, 0), inst(d, phase, 1))
		}
	}
}

func TestBriefAtTheStartAlone(t *testing.T) {
	d := read(t, "a; do b @0; pivot p @1; ever e @2")
	for _, x := range []api.Inst{inst(d, api.Forward, 0, 1, 0, 0), inst(d, api.Forward, 0, 2, 0, 0), inst(d, api.Sealed, 0, 2, 1, 0), inst(d, api.Backward, 1, 0, 0, 0), inst(d, api.Aborted, 1, 0, 0, 0), inst(d, api.Completing, 0, 2, 2, 0), inst(d, api.Committed, 0, 2, 2, 2)} {
		mustBe(t, "P19.1", d, true, x)
		mustNotOn(t, "P19.2", d, x, api.ErrPhaseEvent, ended(api.Committed, 0), ended(api.Aborted, 1), ended(api.Aborted, 4))
	}
	retriable := read(t, "a; ever b @1; ever c @1")
	mustOn(t, "P19.2", retriable, mustStart(t, retriable), ended(api.Committed, 0), inst(retriable, api.Committed, 0))
	mustNotOn(t, "P19.2", retriable, inst(retriable, api.Completing, 0, 1, 0), api.ErrPhaseEvent, ended(api.Committed, 0))
}

func TestPhases(t *testing.T) {
	d := read(t, "a; do b @0; do c @1 <b; pivot p @2; ever e @2")
	mustBe(t, "P19.1", d, true,
		inst(d, api.Forward, 0, 0, 0, 0, 0), inst(d, api.Forward, 0, 1, 0, 0, 0), inst(d, api.Forward, 0, 2, 1, 0, 0), inst(d, api.Forward, 0, 2, 2, 0, 0),
		inst(d, api.Sealed, 0, 2, 2, 1, 0), inst(d, api.Completing, 0, 2, 2, 2, 0), inst(d, api.Completing, 0, 2, 2, 2, 1), inst(d, api.Completing, 0, 2, 2, 2, 2),
		inst(d, api.Committed, 0, 2, 2, 2, 2), freed(inst(d, api.Committed, 0, 2, 2, 2, 2), 0, 2),
		inst(d, api.Backward, 1, 0, 0, 0, 0), inst(d, api.Backward, 2, 1, 0, 0, 0), inst(d, api.Backward, 1, 2, 2, 0, 0), inst(d, api.Backward, 1, 2, 3, 0, 0), inst(d, api.Backward, 3, 2, 3, 0, 0), inst(d, api.Backward, 4, 5, 4, 0, 0),
		inst(d, api.Backward, 3, 2, 2, 3, 0), inst(d, api.Backward, 4, 2, 5, 4, 0), inst(d, api.Backward, 1, 5, 5, 0, 0),
		inst(d, api.Aborted, 1, 0, 0, 0, 0), inst(d, api.Aborted, 3, 5, 3, 0, 0), inst(d, api.Aborted, 4, 5, 5, 4, 0), freed(inst(d, api.Aborted, 4, 5, 5, 4, 0), 1, 2))
	mustBe(t, "P19.1", d, false,
		inst(d, api.Forward, 0, 0, 1, 0, 0), inst(d, api.Forward, 0, 1, 2, 0, 0), inst(d, api.Forward, 0, 2, 2, 1, 0), inst(d, api.Forward, 0, 2, 2, 2, 0), inst(d, api.Forward, 0, 3, 0, 0, 0), inst(d, api.Forward, 0, 5, 0, 0, 0), inst(d, api.Forward, 0, 2, 2, 0, 1), inst(d, api.Forward, 1, 0, 0, 0, 0), freed(inst(d, api.Forward, 0, 0, 0, 0, 0), 0),
		inst(d, api.Sealed, 0, 2, 2, 0, 0), inst(d, api.Sealed, 0, 2, 2, 2, 0), inst(d, api.Sealed, 0, 2, 1, 1, 0), inst(d, api.Sealed, 1, 2, 2, 1, 0), inst(d, api.Sealed, 0, 2, 2, 1, 1),
		inst(d, api.Completing, 0, 2, 2, 1, 0), inst(d, api.Completing, 0, 2, 1, 2, 0), inst(d, api.Completing, 0, 2, 2, 2, 3), inst(d, api.Completing, 0, 2, 2, 2, 5), inst(d, api.Completing, 2, 2, 2, 2, 0), freed(inst(d, api.Completing, 0, 2, 2, 2, 2), 2),
		inst(d, api.Committed, 0, 2, 2, 2, 1), inst(d, api.Committed, 1, 2, 2, 2, 2), freed(inst(d, api.Committed, 0, 2, 2, 2, 2), 3), freed(inst(d, api.Committed, 0, 2, 2, 2, 2), 0, 1, 2),
		inst(d, api.Backward, 0, 2, 1, 0, 0), inst(d, api.Backward, 3, 2, 2, 0, 0), inst(d, api.Backward, 4, 2, 3, 0, 0), inst(d, api.Backward, 1, 2, 2, 3, 0), inst(d, api.Backward, 3, 2, 2, 4, 0), inst(d, api.Backward, 4, 2, 2, 3, 0), inst(d, api.Backward, 3, 2, 3, 3, 0), inst(d, api.Backward, 3, 2, 2, 5, 0), inst(d, api.Backward, 3, 2, 2, 3, 1), inst(d, api.Backward, 1, 2, 2, 1, 0), inst(d, api.Backward, 1, 5, 2, 0, 0), inst(d, api.Backward, 1, 5, 1, 0, 0), freed(inst(d, api.Backward, 1, 0, 0, 0, 0), 0),
		inst(d, api.Aborted, 1, 2, 0, 0, 0), inst(d, api.Aborted, 1, 1, 0, 0, 0), inst(d, api.Aborted, 0, 0, 0, 0, 0), inst(d, api.Aborted, 3, 5, 5, 0, 0), freed(inst(d, api.Aborted, 1, 0, 0, 0, 0), 0, 1, 2), freed(inst(d, api.Aborted, 1, 0, 0, 0, 0), 3))
}

// TestPhasesWithoutAPivot: the last compensatable step that is done seals all.
func TestPhasesWithoutAPivot(t *testing.T) {
	d := read(t, "a; do b @0; do c @1; ever e @2")
	mustBe(t, "P19.1", d, true, inst(d, api.Forward, 0, 2, 1, 0), inst(d, api.Completing, 0, 2, 2, 0), inst(d, api.Backward, 1, 2, 2, 0), inst(d, api.Aborted, 1, 5, 5, 0))
	mustBe(t, "P19.1", d, false, inst(d, api.Forward, 0, 2, 2, 0), inst(d, api.Sealed, 0, 2, 2, 0), inst(d, api.Sealed, 0, 2, 1, 0), inst(d, api.Completing, 0, 2, 1, 0))
	mustOn(t, "P19.2", d, inst(d, api.Forward, 0, 2, 1, 0), mark(1, api.StepDone), inst(d, api.Completing, 0, 2, 2, 0))
	mustOn(t, "P19.2", d, inst(d, api.Forward, 0, 1, 1, 0), mark(1, api.StepDone), inst(d, api.Forward, 0, 1, 2, 0))
	mustOn(t, "P19.2", d, inst(d, api.Backward, 1, 2, 1, 0), mark(1, api.StepDone), inst(d, api.Backward, 1, 2, 2, 0))
	mustNotOn(t, "P19.2", d, inst(d, api.Completing, 0, 2, 2, 0), api.ErrPhaseEvent, note(api.NoteCancel), note(api.NoteLate))
}

func TestPhasesOfRetriableSteps(t *testing.T) {
	d := read(t, "a; ever e @3; ever f @3 <e")
	mustBe(t, "P19.1", d, true, inst(d, api.Completing, 0, 0, 0), inst(d, api.Completing, 0, 1, 0), inst(d, api.Completing, 0, 2, 1), inst(d, api.Committed, 0, 2, 2))
	mustBe(t, "P19.1", d, false, inst(d, api.Forward, 0, 0, 0), inst(d, api.Sealed, 0, 0, 0), inst(d, api.Backward, 1, 0, 0), inst(d, api.Backward, 2, 0, 0), inst(d, api.Aborted, 1, 0, 0), inst(d, api.Completing, 0, 0, 1), inst(d, api.Completing, 0, 1, 1), freed(inst(d, api.Committed, 0, 2, 2), 3))
	mustOn(t, "P19.2", d, inst(d, api.Committed, 0, 2, 2), freeOf(3), inst(d, api.Committed, 0))
}

func TestPhasesOfAPivotAlone(t *testing.T) {
	d := read(t, "a; pivot p @2")
	mustBe(t, "P19.1", d, true, inst(d, api.Forward, 0, 0), inst(d, api.Sealed, 0, 1), inst(d, api.Completing, 0, 2), inst(d, api.Backward, 1, 0), inst(d, api.Backward, 3, 3), inst(d, api.Aborted, 4, 4))
	mustBe(t, "P19.1", d, false, inst(d, api.Backward, 3, 0), inst(d, api.Backward, 1, 3), inst(d, api.Backward, 1, 1), inst(d, api.Backward, 1, 5), inst(d, api.Completing, 0, 0))
	mustOn(t, "P19.2", d, inst(d, api.Forward, 0, 0), note(api.NoteCancel), inst(d, api.Backward, api.CauseCancel, 0))
	mustNext(t, "P19.3", d, inst(d, api.Backward, api.CauseCancel, 0), note(api.NoteEnd))
	mustOn(t, "P19.2", d, inst(d, api.Sealed, 0, 1), mark(0, api.StepBusy), inst(d, api.Backward, api.CauseBusy, 4))
	mustNext(t, "P19.3", d, inst(d, api.Completing, 0, 2), note(api.NoteEnd))
}

func TestOnOfWrongNotes(t *testing.T) {
	d := read(t, "a; do b @0; pivot p @1; ever e @2")
	x := inst(d, api.Forward, 0, 1, 0, 0)
	wrong := []api.Note{
		{}, note(0), note(-1), note(10), note(math.MaxInt), note(math.MinInt),
		{Kind: api.NoteDef, Text: "a; do b @0"}, {Kind: api.NoteDef, Inst: 5, Text: "a"}, {Kind: api.NoteDef},
		{Kind: api.NoteStart, Inst: 5}, {Kind: api.NoteCancel}, {Kind: api.NoteCancel, Inst: 4}, {Kind: api.NoteCancel, Inst: 6}, {Kind: api.NoteCancel, Inst: -5}, {Kind: api.NoteCancel, Inst: 1<<32 + 5},
		{Kind: api.NoteCancel, Inst: 5, Step: 1}, {Kind: api.NoteLate, Inst: 5, Cause: 2}, {Kind: api.NoteIssue, Inst: 5, Step: 8}, {Kind: api.NoteIssue, Inst: 5, Step: -1}, {Kind: api.NoteIssue, Inst: 5, State: 1},
		mark(0, 0), mark(0, 1), mark(0, 6), mark(0, -1), mark(8, 2), mark(-1, 2), mark(math.MinInt, 2), mark(math.MaxInt, 5),
		freeOf(-1), freeOf(4), freeOf(math.MaxInt), freeOf(math.MinInt), ended(api.Committed, 1), ended(api.Aborted, 0), ended(api.Aborted, 5), ended(api.Forward, 0), {Kind: api.NoteEnd, Inst: 5, Key: "k"},
		{Kind: api.NoteIssue, Inst: 4}, {Kind: api.NoteMark, Inst: 4, State: api.StepDone}, {Kind: api.NoteStart, Inst: 4, Key: "k", Name: "a", Version: 1},
	}
	mustNotOn(t, "P19.2", d, x, api.ErrArg, wrong...)
	mustNotOn(t, "P19.2", d, inst(d, api.Committed, 0), api.ErrArg, wrong...)
	mustNotOn(t, "P19.2", d, api.Inst{}, api.ErrArg, append(wrong, issue(0))...)
}

func TestOnOfNotesThatCannotCome(t *testing.T) {
	d := read(t, "a; do b @0; do c @1 <b; pivot p @2; ever e @2")
	begin := api.Note{Kind: api.NoteStart, Inst: 5, Key: "k", Name: "a", Version: 1}
	x := inst(d, api.Forward, 0, 1, 0, 0, 0)
	mustNotOn(t, "P19.2", d, x, api.ErrPhaseEvent, begin, issue(0), issue(1), issue(2), issue(3), issue(4), issue(7), mark(0, api.StepUndone), mark(1, api.StepDone), mark(2, api.StepNo), mark(3, api.StepDone), mark(4, api.StepDone), mark(7, api.StepBusy), mark(7, api.StepUndone), note(api.NoteEnd), freeOf(0), freeOf(3))
	mustNotOn(t, "P19.2", d, mustStart(t, d), api.ErrPhaseEvent, begin, issue(1), issue(2), mark(0, api.StepDone), mark(0, api.StepNo), note(api.NoteEnd))
	back := inst(d, api.Backward, 1, 2, 1, 0, 0)
	mustNotOn(t, "P19.2", d, back, api.ErrPhaseEvent, begin, note(api.NoteCancel), note(api.NoteLate), issue(2), mark(0, api.StepUndone), mark(0, api.StepDone), mark(0, api.StepNo), mark(2, api.StepUndone), note(api.NoteEnd), freeOf(1))
	mustNotOn(t, "P19.2", d, inst(d, api.Backward, 1, 2, 0, 0, 0), api.ErrPhaseEvent, issue(1), note(api.NoteEnd))
	gone := freed(inst(d, api.Aborted, 1, 5, 3, 0, 0), 1)
	mustNotOn(t, "P19.2", d, gone, api.ErrPhaseEvent, begin, note(api.NoteEnd), note(api.NoteCancel), freeOf(1), freeOf(3), issue(0), issue(1), mark(0, api.StepUndone), mark(1, api.StepDone), ended(api.Aborted, 1))
	mustNotOn(t, "P19.2", d, inst(d, api.Committed, 0, 2, 2, 2, 2), api.ErrPhaseEvent, begin, note(api.NoteEnd), freeOf(3), mark(3, api.StepUndone), mark(0, api.StepUndone))
}

// TestAnswersBehindTheTurn: whatever comes behind the turning back, the cause stays.
func TestAnswersBehindTheTurn(t *testing.T) {
	d := read(t, "a; do b @0; do c @1; do e @3")
	for cause := api.CauseCancel; cause <= api.CauseBusy; cause++ {
		first := map[int]int{api.CauseRefused: api.StepNo, api.CauseBusy: api.StepBusy}[cause]
		x := inst(d, api.Backward, cause, first, 1, 1)
		for _, state := range []int{api.StepDone, api.StepNo, api.StepBusy, api.StepUndone} {
			mustOn(t, "P19.2", d, x, mark(2, state), inst(d, api.Backward, cause, first, 1, state))
		}
	}
	x := inst(d, api.Forward, 0, 1, 1, 1)
	mustOn(t, "P19.2", d, x, mark(1, api.StepNo), inst(d, api.Backward, api.CauseRefused, 1, 3, 1))
	mustOn(t, "P19.2", d, x, mark(1, api.StepBusy), inst(d, api.Backward, api.CauseBusy, 1, 4, 1))
}

func TestWants(t *testing.T) {
	d := read(t, "a; do b @1 +a +room; do c @2 +b; pivot p @1 +e; ever e @1 +room; ever f @3")
	mustWant(t, "P19.4", d, inst(d, api.Forward, 0, 1, 1, 0, 0, 0), api.Letter{Kind: api.LetterDo, Part: 1, Inst: 5, Sort: api.Compensatable, Keys: []string{"a", "room"}}, api.Letter{Kind: api.LetterDo, Part: 2, Inst: 5, Step: 1, Sort: api.Compensatable, Keys: []string{"b"}})
	mustWant(t, "P19.4", d, inst(d, api.Sealed, 0, 2, 2, 1, 0, 0), api.Letter{Kind: api.LetterDo, Part: 1, Inst: 5, Step: 2, Sort: api.Pivot, Keys: []string{"e"}})
	mustWant(t, "P19.4", d, inst(d, api.Completing, 0, 2, 2, 2, 1, 2), api.Letter{Kind: api.LetterDo, Part: 1, Inst: 5, Step: 3, Sort: api.Retriable, Keys: []string{"room"}})
	mustWant(t, "P19.4", d, inst(d, api.Backward, 3, 1, 2, 0, 0, 0))
	mustWant(t, "P19.4", d, inst(d, api.Backward, 2, 1, 2, 0, 0, 0), api.Letter{Kind: api.LetterUndo, Part: 1, Inst: 5}, api.Letter{Kind: api.LetterUndo, Part: 2, Inst: 5, Step: 1})
	mustWant(t, "P19.4", d, inst(d, api.Committed, 0, 2, 2, 2, 2, 2), api.Letter{Kind: api.LetterFree, Part: 1, Inst: 5}, api.Letter{Kind: api.LetterFree, Part: 2, Inst: 5}, api.Letter{Kind: api.LetterFree, Part: 3, Inst: 5})
	mustWant(t, "P19.4", d, freed(inst(d, api.Committed, 0, 2, 2, 2, 2, 2), 1, 3), api.Letter{Kind: api.LetterFree, Part: 2, Inst: 5})
}

func TestNext(t *testing.T) {
	d := read(t, "a; ever x @0; do c @0; do b @1; pivot p @2; ever y @0; ever z @0 <y")
	mustNext(t, "P19.3", d, mustStart(t, d), issue(1), issue(2))
	mustNext(t, "P19.3", d, inst(d, api.Forward, 0, 0, 1, 0, 0, 0, 0), issue(2))
	mustNext(t, "P19.3", d, inst(d, api.Forward, 0, 0, 2, 1, 0, 0, 0))
	mustNext(t, "P19.3", d, inst(d, api.Forward, 0, 0, 2, 2, 0, 0, 0), issue(3))
	mustNext(t, "P19.3", d, inst(d, api.Sealed, 0, 0, 2, 2, 1, 0, 0))
	mustNext(t, "P19.3", d, inst(d, api.Completing, 0, 0, 2, 2, 2, 0, 0), issue(0), issue(4))
	mustNext(t, "P19.3", d, inst(d, api.Completing, 0, 1, 2, 2, 2, 2, 0), issue(5))
	mustNext(t, "P19.3", d, inst(d, api.Completing, 0, 1, 2, 2, 2, 2, 2))
	mustNext(t, "P19.3", d, inst(d, api.Completing, 0, 2, 2, 2, 2, 2, 2), note(api.NoteEnd))
	mustNext(t, "P19.3", d, inst(d, api.Committed, 0, 2, 2, 2, 2, 2, 2))
	mustNext(t, "P19.3", d, inst(d, api.Backward, 1, 0, 0, 0, 0, 0, 0), note(api.NoteEnd))
	mustNext(t, "P19.3", d, inst(d, api.Backward, 3, 0, 5, 3, 0, 0, 0), note(api.NoteEnd))
	mustNext(t, "P19.3", d, inst(d, api.Backward, 1, 0, 5, 1, 0, 0, 0))
	mustNext(t, "P19.3", d, inst(d, api.Aborted, 1, 0, 5, 5, 0, 0, 0))
}

func TestNotes(t *testing.T) {
	d := read(t, "a; ever x @0; do c @0 <b; do b @1; pivot p @2")
	mustTell(t, "P19.5", d, mustStart(t, d))
	mustTell(t, "P19.5", d, inst(d, api.Forward, 0, 0, 1, 2, 0), issue(2), mark(2, 2), issue(1))
	mustTell(t, "P19.5", d, inst(d, api.Sealed, 0, 0, 2, 2, 1), issue(2), mark(2, 2), issue(1), mark(1, 2), issue(3))
	mustTell(t, "P19.5", d, freed(inst(d, api.Committed, 0, 2, 2, 2, 2), 0, 2), issue(2), mark(2, 2), issue(1), mark(1, 2), issue(3), mark(3, 2), issue(0), mark(0, 2), note(api.NoteEnd), freeOf(0), freeOf(2))
	mustTell(t, "P19.5", d, inst(d, api.Backward, api.CauseCancel, 0, 0, 0, 0), note(api.NoteCancel))
	mustTell(t, "P19.5", d, inst(d, api.Backward, api.CauseCancel, 0, 0, 2, 0), issue(2), note(api.NoteCancel), mark(2, 2))
	mustTell(t, "P19.5", d, inst(d, api.Backward, api.CauseLate, 0, 5, 2, 0), issue(2), mark(2, 2), issue(1), note(api.NoteLate), mark(1, 5))
	mustTell(t, "P19.5", d, inst(d, api.Backward, api.CauseLate, 0, 2, 2, 0), issue(2), mark(2, 2), issue(1), note(api.NoteLate), mark(1, 2))
	mustTell(t, "P19.5", d, inst(d, api.Backward, api.CauseRefused, 0, 2, 2, 3), issue(2), mark(2, 2), issue(1), mark(1, 2), issue(3), mark(3, 3))
	mustTell(t, "P19.5", d, freed(inst(d, api.Aborted, api.CauseBusy, 0, 5, 5, 4), 1), issue(2), mark(2, 2), issue(1), mark(1, 2), issue(3), mark(3, 4), mark(1, 5), mark(2, 5), note(api.NoteEnd), freeOf(1))
}

// TestNotesOfSeveralThatGaveUp: the first one by its number turns the instance back, also where the order has another one first.
func TestNotesOfSeveralThatGaveUp(t *testing.T) {
	d := read(t, "a; do b @0 <e; do c @0; do e @0; do f @0")
	mustTell(t, "P19.5", d, inst(d, api.Backward, api.CauseRefused, 3, 3, 5, 4), issue(1), issue(2), mark(2, 2), issue(0), issue(3), mark(0, 3), mark(1, 3), mark(3, 4), mark(2, 5))
	mustTell(t, "P19.5", d, inst(d, api.Backward, api.CauseBusy, 4, 4, 2, 3), issue(1), issue(2), mark(2, 2), issue(0), issue(3), mark(0, 4), mark(1, 4), mark(3, 3))
	mustTell(t, "P19.5", d, inst(d, api.Backward, api.CauseBusy, 3, 1, 2, 4), issue(1), issue(2), mark(2, 2), issue(0), issue(3), mark(3, 4), mark(0, 3))
	mustTell(t, "P19.5", d, inst(d, api.Backward, api.CauseCancel, 4, 2, 2, 3), issue(1), issue(2), mark(2, 2), issue(0), issue(3), note(api.NoteCancel), mark(0, 4), mark(1, 2), mark(3, 3))
}

func TestClosed(t *testing.T) {
	for phase := -1; phase <= 8; phase++ {
		want := phase == api.Committed || phase == api.Aborted
		for _, x := range []api.Inst{{Phase: phase}, {Phase: phase, Steps: []int{}}, {Phase: phase, Id: -1, Cause: 9, Freed: [4]int{1, 2}}} {
			if Closed(x) != want {
				t.Errorf("P19.6: Closed of %v = %t", x, !want)
			}
		}
		for _, steps := range [][]int{{0}, {2}, {-1}, make([]int, 100)} {
			if x := (api.Inst{Phase: phase, Steps: steps}); Closed(x) {
				t.Errorf("P19.6: Closed of %v", x)
			}
		}
	}
}

// TestMemory: what is handed in is not changed and not kept, what is answered is new.
func TestMemory(t *testing.T) {
	d := read(t, "a; do b @1 +a +room; do c @1 +room; pivot p @2")
	d.Steps[0].Keys = append(make([]string, 0, 9), d.Steps[0].Keys...)
	x := inst(d, api.Forward, 0, append(make([]int, 0, 9), 1, 1, 0)...)
	y, err := On(d, x, mark(0, api.StepDone))
	if err != api.OK || !slices.Equal(x.Steps, []int{1, 1, 0}) {
		t.Errorf("R5: On changed %v (%d)", x, err)
	}
	spoil(y.Steps)
	if !slices.Equal(x.Steps[:9], []int{1, 1, 0, 0, 0, 0, 0, 0, 0}) {
		t.Errorf("R5: On answers the memory of %v", x)
	}
	letters := Wants(d, x)
	for i := range letters {
		keys := letters[i].Keys
		for at := range keys[:cap(keys)] {
			keys[:cap(keys)][at] = "spoilt"
		}
	}
	if again := Wants(d, x); !slices.Equal(again[0].Keys, []string{"a", "room"}) || !slices.Equal(again[1].Keys, []string{"room"}) || letters[0].Keys[1] != "spoilt" {
		t.Errorf("R5: Wants answers the memory of the definition: %v", again)
	}
	a, _ := Start(d, 5, "k", 1)
	b, _ := Start(d, 5, "k", 1)
	spoil(a.Steps)
	if !slices.Equal(b.Steps, []int{0, 0, 0}) {
		t.Errorf("R5: two Starts share their steps")
	}
}

func spoil(list []int) {
	for i := range list[:cap(list)] {
		list[:cap(list)][i] = 77
	}
}
