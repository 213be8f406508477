package ledger

import (
	"math"
	"reflect"
	"slices"
	"testing"

	"odyssey/api"
)

func letterDo(inst, step, sort int, keys ...string) api.Letter {
	return api.Letter{Kind: api.LetterDo, Part: 1, Inst: inst, Step: step, Sort: sort, Keys: keys}
}

func letterUndo(inst, step int) api.Letter {
	return api.Letter{Kind: api.LetterUndo, Part: 1, Inst: inst, Step: step}
}

func letterFree(inst int) api.Letter {
	return api.Letter{Kind: api.LetterFree, Part: 1, Inst: inst}
}

func event(kind, inst, step int, keys ...string) api.Event {
	return api.Event{Kind: kind, Inst: inst, Step: step, Keys: keys}
}

// mustApply wants that all of the events are taken.
func mustApply(t *testing.T, what string, g *Ledger, events ...api.Event) {
	t.Helper()
	for _, e := range events {
		if err := g.Apply(e); err != api.OK {
			t.Errorf("%s: Apply(%v) = %d, want OK", what, e, err)
		}
	}
}

// mustRefuse wants an error, and that nothing is changed by it.
func mustRefuse(t *testing.T, what string, g *Ledger, want api.Errno, e api.Event) {
	t.Helper()
	before := g.Events()
	if err := g.Apply(e); err != want {
		t.Errorf("%s: Apply(%v) = %d, want %d", what, e, err, want)
	}
	if after := g.Events(); !alikeEvents(before, after) {
		t.Errorf("R3: %s: Apply(%v) was refused, and changed %v to %v", what, e, before, after)
	}
}

// mustAsk wants an event (of Kind 0: none) and the kind of the reply.
func mustAsk(t *testing.T, what string, g *Ledger, l api.Letter, yes bool, want api.Event, kind int) {
	t.Helper()
	reply := api.Letter{Kind: kind, Part: l.Part, Inst: l.Inst, Step: l.Step}
	e, r, err := g.Ask(l, yes)
	if !alikeEvent(e, want) || !reflect.DeepEqual(r, reply) || err != api.OK {
		t.Errorf("%s: Ask(%v, %t) = %v, %v, %d, want %v, %v", what, l, yes, e, r, err, want, reply)
	}
}

func mustTell(t *testing.T, what string, g *Ledger, want ...api.Event) {
	t.Helper()
	if events := g.Events(); !alikeEvents(events, want) {
		t.Errorf("%s: Events %v, want %v", what, events, want)
	}
}

func TestExamples(t *testing.T) {
	g := New()
	do := letterDo(5, 0, api.Compensatable, "room")
	mustAsk(t, "P17.2", g, do, true, event(api.EventDo, 5, 0, "room"), api.LetterDone)
	mustApply(t, "P17.3", g, event(api.EventDo, 5, 0, "room"))
	if mark, holder := g.Mark(5, 0), g.Holder("room"); mark != api.MarkDone || holder != 5 {
		t.Errorf("P17.4: mark %d, holder %d", mark, holder)
	}
	other := letterDo(6, 0, api.Compensatable, "room")
	mustAsk(t, "P17.2", g, other, true, event(api.EventBusy, 6, 0), api.LetterBusy)
	mustAsk(t, "P17.2", g, letterUndo(5, 0), false, api.Event{}, api.LetterAgain)
	mustAsk(t, "P17.2", g, letterUndo(5, 0), true, event(api.EventUndo, 5, 0), api.LetterUndone)
	mustApply(t, "P17.3", g, event(api.EventUndo, 5, 0))
	if holder := g.Holder("room"); holder != 5 {
		t.Errorf("P17.4: behind EventUndo the holder is %d", holder)
	}
	mustApply(t, "P17.3", g, event(api.EventFree, 5, 0))
	if holder := g.Holder("room"); holder != 0 {
		t.Errorf("P17.4: behind EventFree the holder is %d", holder)
	}
	mustAsk(t, "P17.2", g, letterUndo(7, 2), true, event(api.EventBar, 7, 2), api.LetterUndone)
	mustApply(t, "P17.3", g, event(api.EventBar, 7, 2))
	mustAsk(t, "P17.2", g, letterDo(7, 2, api.Compensatable), true, api.Event{}, api.LetterUndone)
	mustRefuse(t, "P17.3", g, api.ErrLedgerEvent, event(api.EventUndo, 8, 0))
	mustRefuse(t, "P17.3", g, api.ErrArg, event(api.EventDo, 0, 0))
}

func TestNew(t *testing.T) {
	g := New()
	mustTell(t, "P17.1", g)
	for _, inst := range []int{math.MinInt, -1, 0, 1, 5, 60, 61, math.MaxInt} {
		for _, step := range []int{math.MinInt, -1, 0, 7, 8, math.MaxInt} {
			if mark := g.Mark(inst, step); mark != api.MarkNone {
				t.Errorf("P17.1: Mark(%d, %d) = %d", inst, step, mark)
			}
		}
		if g.Freed(inst) {
			t.Errorf("P17.1: Freed(%d)", inst)
		}
	}
	for _, key := range []string{"", "a", "room", "A", "\xff", "ω"} {
		if holder := g.Holder(key); holder != 0 {
			t.Errorf("P17.1: Holder(%q) = %d", key, holder)
		}
	}
}

// standings are ledgers in which the step 2 of the instance 5 stands in all ways that there are.
var standings = []struct {
	mark   int
	freed  bool
	events []api.Event
}{
	{api.MarkNone, false, nil},
	{api.MarkDone, false, []api.Event{event(api.EventDo, 5, 2, "a")}},
	{api.MarkNo, false, []api.Event{event(api.EventNo, 5, 2)}},
	{api.MarkBusy, false, []api.Event{event(api.EventBusy, 5, 2)}},
	{api.MarkBar, false, []api.Event{event(api.EventBar, 5, 2)}},
	{api.MarkUndone, false, []api.Event{event(api.EventDo, 5, 2, "a"), event(api.EventUndo, 5, 2)}},
	{api.MarkNone, true, []api.Event{event(api.EventFree, 5, 0)}},
	{api.MarkDone, true, []api.Event{event(api.EventDo, 5, 2), event(api.EventFree, 5, 0)}},
	{api.MarkNo, true, []api.Event{event(api.EventNo, 5, 2), event(api.EventFree, 5, 0)}},
	{api.MarkBusy, true, []api.Event{event(api.EventBusy, 5, 2), event(api.EventFree, 5, 0)}},
	{api.MarkBar, true, []api.Event{event(api.EventBar, 5, 2), event(api.EventFree, 5, 0)}},
	{api.MarkUndone, true, []api.Event{event(api.EventDo, 5, 2), event(api.EventUndo, 5, 2), event(api.EventFree, 5, 0)}},
}

// TestAskWhereThereIsAMark: the reply hangs on the mark alone, whatever the sort, the keys and the verdict; but LetterUndo of what is done.
func TestAskWhereThereIsAMark(t *testing.T) {
	replies := map[int]int{
		api.MarkDone: api.LetterDone, api.MarkNo: api.LetterNo, api.MarkBusy: api.LetterBusy, api.MarkBar: api.LetterUndone, api.MarkUndone: api.LetterUndone,
	}
	for _, s := range standings {
		g := New()
		mustApply(t, "P17.3", g, event(api.EventDo, 6, 2, "z"))
		mustApply(t, "P17.3", g, s.events...)
		if s.mark == api.MarkNone {
			continue
		}
		for _, yes := range []bool{true, false} {
			for sort := api.Compensatable; sort <= api.Retriable; sort++ {
				for _, keys := range [][]string{nil, {"a"}, {"b"}, {"z"}, {"a", "z"}} {
					mustAsk(t, "P17.2", g, letterDo(5, 2, sort, keys...), yes, api.Event{}, replies[s.mark])
				}
			}
			if s.mark != api.MarkDone {
				mustAsk(t, "P17.2", g, letterUndo(5, 2), yes, api.Event{}, api.LetterUndone)
			}
		}
		mustTell(t, "P17.2", g, append(slices.Clone(s.events), event(api.EventDo, 6, 2, "z"))...)
	}
}

func TestAskToUndo(t *testing.T) {
	g := New()
	mustApply(t, "P17.3", g, event(api.EventDo, 5, 2, "a"), event(api.EventDo, 6, 0), event(api.EventFree, 6, 0))
	mustAsk(t, "P17.2", g, letterUndo(5, 2), true, event(api.EventUndo, 5, 2), api.LetterUndone)
	mustAsk(t, "P17.2", g, letterUndo(5, 2), false, api.Event{}, api.LetterAgain)
	mustAsk(t, "P17.2", g, letterUndo(6, 0), true, api.Event{}, api.LetterAgain)
	mustAsk(t, "P17.2", g, letterUndo(6, 0), false, api.Event{}, api.LetterAgain)
	for _, yes := range []bool{true, false} {
		mustAsk(t, "P17.2", g, letterUndo(5, 3), yes, event(api.EventBar, 5, 3), api.LetterUndone)
		mustAsk(t, "P17.2", g, letterUndo(7, 2), yes, event(api.EventBar, 7, 2), api.LetterUndone)
		mustAsk(t, "P17.2", g, letterUndo(6, 1), yes, api.Event{}, api.LetterUndone)
	}
}

func TestAskToDo(t *testing.T) {
	g := New()
	mustApply(t, "P17.3", g, event(api.EventDo, 5, 0, "b", "room"), event(api.EventFree, 6, 0))
	taken := [][]string{{"b"}, {"room"}, {"a", "b"}, {"room", "z"}, {"b", "room"}}
	for _, sort := range []int{api.Compensatable, api.Pivot} {
		mustAsk(t, "P17.2", g, letterDo(7, 0, sort), true, event(api.EventDo, 7, 0), api.LetterDone)
		mustAsk(t, "P17.2", g, letterDo(7, 0, sort, "a", "z"), true, event(api.EventDo, 7, 0, "a", "z"), api.LetterDone)
		mustAsk(t, "P17.2", g, letterDo(7, 0, sort, "a"), false, event(api.EventNo, 7, 0), api.LetterNo)
		// What another one has comes ahead of the verdict.
		for _, keys := range taken {
			for _, yes := range []bool{true, false} {
				mustAsk(t, "P17.2", g, letterDo(7, 0, sort, keys...), yes, event(api.EventBusy, 7, 0), api.LetterBusy)
			}
		}
	}
	mustAsk(t, "P17.2", g, letterDo(7, 0, api.Retriable, "a", "z"), true, event(api.EventDo, 7, 0, "a", "z"), api.LetterDone)
	mustAsk(t, "P17.2", g, letterDo(7, 0, api.Retriable, "a"), false, api.Event{}, api.LetterAgain)
	for _, keys := range taken {
		for _, yes := range []bool{true, false} {
			mustAsk(t, "P17.2", g, letterDo(7, 0, api.Retriable, keys...), yes, api.Event{}, api.LetterAgain)
		}
	}
	// Its own keys are nobody else's.
	for sort := api.Compensatable; sort <= api.Retriable; sort++ {
		mustAsk(t, "P17.2", g, letterDo(5, 1, sort, "b", "room"), true, event(api.EventDo, 5, 1, "b", "room"), api.LetterDone)
	}
	// Of a freed instance without a mark: LetterNo ahead of everything.
	for sort := api.Compensatable; sort <= api.Retriable; sort++ {
		for _, yes := range []bool{true, false} {
			mustAsk(t, "P17.2", g, letterDo(6, 0, sort, "b"), yes, api.Event{}, api.LetterNo)
			mustAsk(t, "P17.2", g, letterDo(6, 0, sort), yes, api.Event{}, api.LetterNo)
		}
	}
}

func TestAskToFree(t *testing.T) {
	for _, s := range standings {
		g := New()
		mustApply(t, "P17.3", g, s.events...)
		for _, yes := range []bool{true, false} {
			want := event(api.EventFree, 5, 0)
			if s.freed {
				want = api.Event{}
			}
			mustAsk(t, "P17.2", g, letterFree(5), yes, want, api.LetterFreed)
			mustAsk(t, "P17.2", g, letterFree(6), yes, event(api.EventFree, 6, 0), api.LetterFreed)
		}
	}
}

// TestReplies: with the Part, the Inst and the Step of the letter, at the ends of what they may be.
func TestReplies(t *testing.T) {
	for _, part := range []int{0, 3} {
		for _, inst := range []int{1, 60} {
			for _, step := range []int{0, 7} {
				do, undo, free := letterDo(inst, step, api.Pivot, "a"), letterUndo(inst, step), letterFree(inst)
				do.Part, undo.Part, free.Part = part, part, part
				g := New()
				mustAsk(t, "P17.2", g, do, true, event(api.EventDo, inst, step, "a"), api.LetterDone)
				mustAsk(t, "P17.2", g, undo, true, event(api.EventBar, inst, step), api.LetterUndone)
				mustAsk(t, "P17.2", g, free, true, event(api.EventFree, inst, 0), api.LetterFreed)
				mustApply(t, "P17.3", g, event(api.EventDo, inst, step, "a"), event(api.EventUndo, inst, step), event(api.EventFree, inst, 0))
				mustTell(t, "P17.5", g, event(api.EventDo, inst, step), event(api.EventUndo, inst, step), event(api.EventFree, inst, 0))
			}
		}
	}
}

func TestWrongLetters(t *testing.T) {
	do, undo, free := letterDo(5, 1, api.Compensatable, "a"), letterUndo(5, 1), letterFree(5)
	wrong := []api.Letter{{}}
	change := func(l api.Letter, changes ...func(*api.Letter)) {
		for _, f := range changes {
			x := l
			f(&x)
			wrong = append(wrong, x)
		}
	}
	for _, l := range []api.Letter{do, undo, free} {
		change(l,
			func(l *api.Letter) { l.Kind = 0 }, func(l *api.Letter) { l.Kind = -1 }, func(l *api.Letter) { l.Kind = 10 },
			func(l *api.Letter) { l.Part = -1 }, func(l *api.Letter) { l.Part = 4 },
			func(l *api.Letter) { l.Inst = 0 }, func(l *api.Letter) { l.Inst = 61 }, func(l *api.Letter) { l.Inst = math.MinInt },
			func(l *api.Letter) { l.Step = -1 }, func(l *api.Letter) { l.Step = 8 }, func(l *api.Letter) { l.Step = math.MaxInt },
			func(l *api.Letter) { l.Sort = 4 }, func(l *api.Letter) { l.Sort = -1 },
			func(l *api.Letter) { l.Keys = []string{"A"} }, func(l *api.Letter) { l.Keys = []string{""} })
	}
	change(do,
		func(l *api.Letter) { l.Sort = 0 }, func(l *api.Letter) { l.Keys = []string{"b", "a"} },
		func(l *api.Letter) { l.Keys = []string{"a", "a"} }, func(l *api.Letter) { l.Keys = []string{"a", "b", "c"} })
	change(undo, func(l *api.Letter) { l.Sort = 1 }, func(l *api.Letter) { l.Keys = []string{"a"} })
	change(free, func(l *api.Letter) { l.Step = 1 }, func(l *api.Letter) { l.Sort = 1 }, func(l *api.Letter) { l.Keys = []string{"a"} })
	for kind := api.LetterDone; kind <= api.LetterFreed; kind++ {
		wrong = append(wrong, api.Letter{Kind: kind, Part: 1, Inst: 5})
	}
	g := New()
	mustApply(t, "P17.3", g, event(api.EventDo, 5, 0, "room"))
	for _, l := range wrong {
		for _, yes := range []bool{true, false} {
			e, reply, err := g.Ask(l, yes)
			if err != api.ErrArg || !reflect.DeepEqual(e, api.Event{}) || !reflect.DeepEqual(reply, api.Letter{}) {
				t.Errorf("P17.2: Ask(%v, %t) = %v, %v, %d, want ErrArg", l, yes, e, reply, err)
			}
		}
	}
	mustTell(t, "R3", g, event(api.EventDo, 5, 0, "room"))
}

func TestWrongEvents(t *testing.T) {
	wrong := []api.Event{{}}
	for kind := api.EventDo; kind <= api.EventFree; kind++ {
		for _, inst := range []int{math.MinInt, -1, 0, 61, math.MaxInt} {
			wrong = append(wrong, event(kind, inst, 0))
		}
		for _, step := range []int{math.MinInt, -1, 8, math.MaxInt} {
			wrong = append(wrong, event(kind, 5, step))
		}
		wrong = append(wrong, event(kind, 5, 0, "A"), event(kind, 5, 0, "b", "a"), event(kind, 5, 0, "a", "a"), event(kind, 5, 0, "a", "b", "c"))
		if kind != api.EventDo {
			wrong = append(wrong, event(kind, 5, 0, "a"))
		}
	}
	wrong = append(wrong, event(api.EventFree, 5, 1), event(0, 5, 0), event(7, 5, 0), event(-1, 5, 0))
	// That it may not be comes ahead of all that stands against it.
	for _, stands := range [][]api.Event{nil, {event(api.EventDo, 5, 0, "a")}, {event(api.EventFree, 5, 0)}, {event(api.EventDo, 6, 0, "a", "b")}} {
		g := New()
		mustApply(t, "P17.3", g, stands...)
		for _, e := range wrong {
			mustRefuse(t, "P17.3", g, api.ErrArg, e)
		}
	}
}

// TestEventsThatCantCome: of each event, in each standing, whether it is taken.
func TestEventsThatCantCome(t *testing.T) {
	for _, s := range standings {
		for kind := api.EventDo; kind <= api.EventFree; kind++ {
			e := event(kind, 5, 2)
			may := s.mark == api.MarkNone
			switch kind {
			case api.EventUndo:
				may = s.mark == api.MarkDone
			case api.EventFree:
				e.Step, may = 0, true
			}
			g := New()
			mustApply(t, "P17.3", g, s.events...)
			if may && !s.freed {
				mustApply(t, "P17.3", g, e)
			} else {
				mustRefuse(t, "P17.3", g, api.ErrLedgerEvent, e)
			}
		}
	}
}

func TestKeysOfOthers(t *testing.T) {
	g := New()
	mustApply(t, "P17.3", g, event(api.EventDo, 5, 0, "b", "room"))
	for _, keys := range [][]string{{"b"}, {"room"}, {"a", "b"}, {"room", "z"}, {"b", "room"}} {
		mustRefuse(t, "P17.3", g, api.ErrLedgerEvent, event(api.EventDo, 6, 0, keys...))
	}
	for _, key := range []string{"a", "z"} {
		if holder := g.Holder(key); holder != 0 {
			t.Errorf("R3: what was refused holds %q: %d", key, holder)
		}
	}
	mustApply(t, "P17.3", g, event(api.EventDo, 5, 1, "b", "z"), event(api.EventUndo, 5, 0))
	mustRefuse(t, "P17.3", g, api.ErrLedgerEvent, event(api.EventDo, 6, 0, "room"))
	mustApply(t, "P17.3", g, event(api.EventBusy, 6, 0), event(api.EventFree, 5, 0), event(api.EventDo, 6, 1, "b", "room"))
	mustRefuse(t, "P17.3", g, api.ErrLedgerEvent, event(api.EventDo, 7, 0, "room"))
	mustTell(t, "P17.5", g,
		event(api.EventDo, 5, 0), event(api.EventUndo, 5, 0), event(api.EventDo, 5, 1), event(api.EventFree, 5, 0),
		event(api.EventBusy, 6, 0), event(api.EventDo, 6, 1, "b", "room"))
}

// TestTheOrderOfEvents: whatever the order in which they came.
func TestTheOrderOfEvents(t *testing.T) {
	want := []api.Event{
		event(api.EventNo, 1, 0), event(api.EventDo, 1, 7, "a"), event(api.EventUndo, 1, 7),
		event(api.EventFree, 2, 0),
		event(api.EventDo, 5, 0), event(api.EventUndo, 5, 0), event(api.EventBusy, 5, 3), event(api.EventBar, 5, 4), event(api.EventDo, 5, 6), event(api.EventFree, 5, 0),
		event(api.EventDo, 60, 1, "room", "ä"),
	}
	applied := slices.Clone(want)
	applied[4].Keys = []string{"b"} // of an instance that is freed in the end
	m := made(17)
	for range 300 {
		g, left := New(), slices.Clone(applied)
		for len(left) > 0 {
			i := m.below(len(left))
			if waits(left, i) {
				continue
			}
			mustApply(t, "P17.3", g, left[i])
			left = slices.Delete(left, i, i+1)
		}
		mustTell(t, "P17.5", g, want...)
	}
}

// waits tells whether an event must come behind one that stands ahead of it: an EventUndo behind its EventDo, an EventFree behind all of its instance.
func waits(events []api.Event, i int) bool {
	e := events[i]
	return slices.ContainsFunc(events[:i], func(a api.Event) bool {
		return a.Inst == e.Inst && (a.Step == e.Step || e.Kind == api.EventFree)
	})
}

// TestAllThatThereIs: each step of each instance, done and undone, with keys.
func TestAllThatThereIs(t *testing.T) {
	g, count := New(), 0
	for inst := api.MaxInst; inst >= 1; inst-- {
		for step := api.MaxSteps - 1; step >= 0; step-- {
			key := string([]byte{'a' + byte(inst%26), 'a' + byte(inst/26), 'a' + byte(step)})
			mustApply(t, "P17.3", g, event(api.EventDo, inst, step, key), event(api.EventUndo, inst, step))
			if holder := g.Holder(key); holder != inst {
				t.Errorf("P17.4: Holder(%q) = %d, want %d", key, holder, inst)
			}
			count += 2
		}
	}
	if events := g.Events(); len(events) != count {
		t.Errorf("P17.5: %d events, want %d", len(events), count)
	}
	for inst := range api.MaxInst {
		mustApply(t, "P17.3", g, event(api.EventFree, 1+inst, 0))
	}
	events := g.Events()
	if len(events) != count+api.MaxInst || slices.ContainsFunc(events, func(e api.Event) bool { return len(e.Keys) > 0 }) {
		t.Errorf("P17.5: behind all EventFrees: %d events, want %d without keys", len(events), count+api.MaxInst)
	}
}

// TestHandedInIsNotKept: R5 of what Ask and Apply are given, with room behind the list.
func TestHandedInIsNotKept(t *testing.T) {
	all := []string{"a", "b", "spare"}
	g := New()
	l := letterDo(5, 0, api.Compensatable, all[:2]...)
	e, _, _ := g.Ask(l, true)
	mustApply(t, "P17.3", g, event(api.EventDo, 5, 0, all[:2]...))
	if !slices.Equal(all, []string{"a", "b", "spare"}) {
		t.Errorf("R5: changed what was handed in: %q", all)
	}
	all[0], all[1] = "y", "z"
	if !slices.Equal(e.Keys, []string{"a", "b"}) {
		t.Errorf("R5: Ask's event shares the letter's keys: %q", e.Keys)
	}
	mustTell(t, "R5", g, event(api.EventDo, 5, 0, "a", "b"))
	if g.Holder("a") != 5 || g.Holder("z") != 0 {
		t.Error("R5: the keys that were handed in are kept")
	}
}

// TestAnswersAreNew: R5 of what Ask and Events answer, their spare room too.
func TestAnswersAreNew(t *testing.T) {
	g := New()
	mustApply(t, "P17.3", g, event(api.EventDo, 5, 0, "a"), event(api.EventUndo, 5, 0), event(api.EventDo, 5, 1, "b"))
	spoil := func(events []api.Event) {
		for i := range events[:cap(events)] {
			keys := events[:cap(events)][i].Keys
			for k := range keys[:cap(keys)] {
				keys[:cap(keys)][k] = "spoilt"
			}
			events[:cap(events)][i] = api.Event{Kind: api.EventFree, Inst: 9}
		}
	}
	one, two := g.Events(), g.Events()
	spoil(one)
	want := []api.Event{event(api.EventDo, 5, 0, "a"), event(api.EventUndo, 5, 0), event(api.EventDo, 5, 1, "b")}
	if !alikeEvents(two, want) {
		t.Errorf("R5: one answer of Events changed another one: %v", two)
	}
	mustTell(t, "R5", g, want...)
	keys := two[0].Keys
	for k := range keys[:cap(keys)] {
		keys[:cap(keys)][k] = "spoilt"
	}
	if !slices.Equal(two[2].Keys, []string{"b"}) {
		t.Errorf("R5: two lists of one answer share memory: %v", two)
	}
	l := letterDo(6, 0, api.Compensatable, "c", "d")
	e, _, _ := g.Ask(l, true)
	mustApply(t, "P17.3", g, e)
	spoil([]api.Event{e})
	if !slices.Equal(l.Keys, []string{"c", "d"}) {
		t.Errorf("R5: Ask's event shares the letter's keys: %q", l.Keys)
	}
	mustTell(t, "R5", g, append(want, event(api.EventDo, 6, 0, "c", "d"))...)
}

// TestObjects: R5: ledgers know nothing of one another.
func TestObjects(t *testing.T) {
	a, b := New(), New()
	mustApply(t, "P17.3", a, event(api.EventDo, 5, 0, "a"))
	mustTell(t, "R5", b)
	mustApply(t, "R5", b, event(api.EventDo, 6, 0, "a"), event(api.EventFree, 6, 0), event(api.EventFree, 5, 0))
	if a.Holder("a") != 5 || a.Freed(5) || a.Freed(6) || b.Holder("a") != 0 {
		t.Error("R5: one ledger knows of another one")
	}
	mustTell(t, "R5", a, event(api.EventDo, 5, 0, "a"))
}
