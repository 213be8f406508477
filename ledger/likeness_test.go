package ledger

import (
	"cmp"
	"reflect"
	"slices"
	"testing"

	"odyssey/api"
)

// made is a row of numbers that follow a fixed rule.
type made uint64

func (m *made) below(n int) int {
	*m = *m*6364136223846793005 + 1442695040888963407
	return int(uint64(*m) >> 33 % uint64(n))
}

// slow is a ledger by its definition: the events that were applied, in their order.
type slow []api.Event

var marksBehind = map[int]int{
	api.EventDo: api.MarkDone, api.EventNo: api.MarkNo, api.EventBusy: api.MarkBusy, api.EventBar: api.MarkBar, api.EventUndo: api.MarkUndone,
}

func (s slow) mark(inst, step int) int {
	mark := api.MarkNone
	for _, e := range s {
		if e.Inst == inst && e.Step == step && e.Kind != api.EventFree {
			mark = marksBehind[e.Kind]
		}
	}
	return mark
}

func (s slow) freed(inst int) bool {
	return slices.ContainsFunc(s, func(e api.Event) bool { return e.Kind == api.EventFree && e.Inst == inst })
}

func (s slow) holders(key string) []int {
	var holders []int
	for _, e := range s {
		if slices.Contains(e.Keys, key) && !s.freed(e.Inst) && !slices.Contains(holders, e.Inst) {
			holders = append(holders, e.Inst)
		}
	}
	return holders
}

func (s slow) others(inst int, keys []string) bool {
	return slices.ContainsFunc(keys, func(key string) bool {
		return slices.ContainsFunc(s.holders(key), func(holder int) bool { return holder != inst })
	})
}

// row is a row of the table of P17.2.
type row struct {
	kind         int
	fits         bool
	event, reply int
}

func (s slow) rows(l api.Letter, yes bool) []row {
	mark, freed, others := s.mark(l.Inst, l.Step), s.freed(l.Inst), s.others(l.Inst, l.Keys)
	fresh, retriable := mark == api.MarkNone, l.Sort == api.Retriable
	return []row{
		{api.LetterDo, mark == api.MarkDone, 0, api.LetterDone},
		{api.LetterDo, mark == api.MarkNo, 0, api.LetterNo},
		{api.LetterDo, mark == api.MarkBusy, 0, api.LetterBusy},
		{api.LetterDo, mark == api.MarkBar || mark == api.MarkUndone, 0, api.LetterUndone},
		{api.LetterDo, fresh && freed, 0, api.LetterNo},
		{api.LetterDo, fresh && retriable && (others || !yes), 0, api.LetterAgain},
		{api.LetterDo, fresh && !retriable && others, api.EventBusy, api.LetterBusy},
		{api.LetterDo, fresh && !retriable && !yes, api.EventNo, api.LetterNo},
		{api.LetterDo, true, api.EventDo, api.LetterDone},
		{api.LetterUndo, mark == api.MarkDone && (freed || !yes), 0, api.LetterAgain},
		{api.LetterUndo, mark == api.MarkDone, api.EventUndo, api.LetterUndone},
		{api.LetterUndo, fresh && !freed, api.EventBar, api.LetterUndone},
		{api.LetterUndo, true, 0, api.LetterUndone},
		{api.LetterFree, freed, 0, api.LetterFreed},
		{api.LetterFree, true, api.EventFree, api.LetterFreed},
	}
}

func (s slow) ask(l api.Letter, yes bool) (api.Event, api.Letter) {
	rows := s.rows(l, yes)
	r := rows[slices.IndexFunc(rows, func(r row) bool { return r.kind == l.Kind && r.fits })]
	reply := api.Letter{Kind: r.reply, Part: l.Part, Inst: l.Inst, Step: l.Step}
	if r.event == 0 {
		return api.Event{}, reply
	}
	e := api.Event{Kind: r.event, Inst: l.Inst, Step: l.Step}
	if r.event == api.EventDo {
		e.Keys = l.Keys
	}
	return e, reply
}

// apply is of events that may be alone.
func (s *slow) apply(e api.Event) api.Errno {
	first := e.Kind == api.EventDo || e.Kind == api.EventNo || e.Kind == api.EventBusy || e.Kind == api.EventBar
	switch {
	case s.freed(e.Inst),
		first && s.mark(e.Inst, e.Step) != api.MarkNone,
		e.Kind == api.EventDo && s.others(e.Inst, e.Keys),
		e.Kind == api.EventUndo && s.mark(e.Inst, e.Step) != api.MarkDone:
		return api.ErrLedgerEvent
	}
	*s = append(*s, e)
	return api.OK
}

// events are those that were applied, instance by instance and step by step.
func (s slow) events() []api.Event {
	all := slices.Clone(s)
	for i, e := range all {
		if s.freed(e.Inst) {
			all[i].Keys = nil
		}
	}
	place := func(e api.Event) int {
		if e.Kind == api.EventFree {
			return e.Inst*100 + 99
		}
		return e.Inst*100 + e.Step
	}
	slices.SortStableFunc(all, func(a, b api.Event) int { return cmp.Compare(place(a), place(b)) })
	return all
}

func alikeEvents(a, b []api.Event) bool {
	return slices.EqualFunc(a, b, alikeEvent)
}

// alikeEvent: but that an empty list may be nil.
func alikeEvent(a, b api.Event) bool {
	return a.Kind == b.Kind && a.Inst == b.Inst && a.Step == b.Step && slices.Equal(a.Keys, b.Keys)
}

// few is what the rows of calls are about.
type few struct {
	insts, steps int
	keys         []string
}

// hold holds all that a ledger tells against its likeness, and what follows of that (P17.6).
func hold(t *testing.T, g *Ledger, s slow, f few) {
	t.Helper()
	holdState(t, "P17.4", g, s, f)
	events := g.Events()
	if want := s.events(); !alikeEvents(events, want) {
		t.Fatalf("P17.5: %v: Events %v, want %v", s, events, want)
	}
	again := New()
	for _, e := range events {
		if err := again.Apply(e); err != api.OK {
			t.Fatalf("P17.6: %v: Apply(%v) of Events to a new ledger = %d", s, e, err)
		}
	}
	holdState(t, "P17.6", again, s, f)
	if told := again.Events(); !alikeEvents(told, events) {
		t.Fatalf("P17.6: %v: behind Events, Events %v, want %v", s, told, events)
	}
}

func holdState(t *testing.T, what string, g *Ledger, s slow, f few) {
	t.Helper()
	for inst := 0; inst <= f.insts+1; inst++ {
		for step := -1; step <= f.steps; step++ {
			if mark, want := g.Mark(inst, step), s.mark(inst, step); mark != want {
				t.Fatalf("%s: %v: Mark(%d, %d) = %d, want %d", what, s, inst, step, mark, want)
			}
		}
		if is, want := g.Freed(inst), s.freed(inst); is != want {
			t.Fatalf("%s: %v: Freed(%d) = %t", what, s, inst, is)
		}
	}
	for _, key := range f.keys {
		want := append(s.holders(key), 0)
		if len(want) > 2 {
			t.Fatalf("P17.6: %v: %q is held by %v", s, key, want)
		}
		if holder := g.Holder(key); holder != want[0] {
			t.Fatalf("%s: %v: Holder(%q) = %d, want %d", what, s, key, holder, want[0])
		}
	}
}

// holdAsk asks, and wants that nothing is changed by that.
func holdAsk(t *testing.T, g *Ledger, s slow, l api.Letter, yes bool) api.Event {
	t.Helper()
	e, reply, err := g.Ask(l, yes)
	wantEvent, wantReply := s.ask(l, yes)
	if !alikeEvent(e, wantEvent) || !reflect.DeepEqual(reply, wantReply) || err != api.OK {
		t.Fatalf("P17.2: %v: Ask(%v, %t) = %v, %v, %d, want %v, %v", s, l, yes, e, reply, err, wantEvent, wantReply)
	}
	return e
}

func holdApply(t *testing.T, g *Ledger, s *slow, e api.Event) {
	t.Helper()
	if err, want := g.Apply(e), s.apply(e); err != want {
		t.Fatalf("P17.3: %v: Apply(%v) = %d, want %d", *s, e, err, want)
	}
}

// holdLetter does what a node does with a letter, and P17.6 beside it.
func holdLetter(t *testing.T, g *Ledger, s *slow, l api.Letter, yes bool) {
	t.Helper()
	e := holdAsk(t, g, *s, l, yes)
	_, reply, _ := g.Ask(l, yes)
	if e.Kind == 0 {
		return
	}
	holdApply(t, g, s, e)
	if !alikeEvent(e, (*s)[len(*s)-1]) {
		t.Fatalf("P17.6: what Ask(%v, %t) told, %v, can't be applied", l, yes, e)
	}
	for _, verdict := range []bool{true, false} {
		if e, again, err := g.Ask(l, verdict); e.Kind != 0 || !reflect.DeepEqual(again, reply) || err != api.OK {
			t.Fatalf("P17.6: %v: again Ask(%v, %t) = %v, %v, %d, want the reply %v", *s, l, verdict, e, again, err, reply)
		}
	}
}

// TestEveryShortRow: all rows of four out of eleven letters and events, and behind each all questions.
func TestEveryShortRow(t *testing.T) {
	const rowLength = 4
	f := few{insts: 2, steps: 2, keys: []string{"a", "b"}}
	do := func(inst, step int, keys ...string) api.Letter {
		return api.Letter{Kind: api.LetterDo, Part: 1, Inst: inst, Step: step, Sort: api.Compensatable, Keys: keys}
	}
	undo := api.Letter{Kind: api.LetterUndo, Part: 1, Inst: 1}
	free := api.Letter{Kind: api.LetterFree, Part: 1, Inst: 1}
	calls := []func(g *Ledger, s *slow){
		func(g *Ledger, s *slow) { holdLetter(t, g, s, do(1, 0, "a"), true) },
		func(g *Ledger, s *slow) { holdLetter(t, g, s, do(1, 1, "a", "b"), true) },
		func(g *Ledger, s *slow) { holdLetter(t, g, s, do(2, 0, "a"), true) },
		func(g *Ledger, s *slow) { holdLetter(t, g, s, do(2, 1, "b"), true) },
		func(g *Ledger, s *slow) { holdLetter(t, g, s, do(1, 0, "b"), false) },
		func(g *Ledger, s *slow) { holdLetter(t, g, s, undo, true) },
		func(g *Ledger, s *slow) { holdLetter(t, g, s, free, true) },
		func(g *Ledger, s *slow) { holdApply(t, g, s, api.Event{Kind: api.EventUndo, Inst: 2}) },
		func(g *Ledger, s *slow) { holdApply(t, g, s, api.Event{Kind: api.EventFree, Inst: 2}) },
		func(g *Ledger, s *slow) { holdApply(t, g, s, api.Event{Kind: api.EventBar, Inst: 2, Step: 1}) },
		func(g *Ledger, s *slow) {
			holdApply(t, g, s, api.Event{Kind: api.EventDo, Inst: 2, Step: 1, Keys: []string{"a", "b"}})
		},
	}
	rows := 1
	for range rowLength {
		rows *= len(calls)
	}
	for row := range rows {
		g, s := New(), slow{}
		for left, i := row, 0; i < rowLength; left, i = left/len(calls), i+1 {
			calls[left%len(calls)](g, &s)
		}
		hold(t, g, s, f)
	}
}

var longFew = few{insts: 6, steps: 4, keys: []string{"a", "b", "room", "z", "ä"}}

// keys are up to two of the few, rising.
func (m *made) keys() []string {
	var keys []string
	for _, key := range longFew.keys {
		if len(keys) < api.MaxKeys && m.below(4) == 0 {
			keys = append(keys, key)
		}
	}
	return keys
}

func (m *made) letter() api.Letter {
	l := api.Letter{Part: m.below(api.Parts), Inst: 1 + m.below(longFew.insts)}
	switch m.below(8) {
	case 0:
		l.Kind = api.LetterFree
	case 1, 2, 3:
		l.Kind, l.Step = api.LetterUndo, m.below(longFew.steps)
	default:
		l.Kind, l.Step, l.Sort, l.Keys = api.LetterDo, m.below(longFew.steps), 1+m.below(3), m.keys()
	}
	return l
}

func (m *made) event() api.Event {
	e := api.Event{Kind: 1 + m.below(6), Inst: 1 + m.below(longFew.insts), Step: m.below(longFew.steps)}
	switch e.Kind {
	case api.EventDo:
		e.Keys = m.keys()
	case api.EventFree:
		e.Step = 0
	}
	return e
}

func TestLongRows(t *testing.T) {
	m := made(171)
	for range 800 {
		g, s := New(), slow{}
		for range 60 {
			if m.below(4) == 0 {
				holdApply(t, g, &s, m.event())
			} else {
				holdLetter(t, g, &s, m.letter(), m.below(3) > 0)
			}
			for range 5 {
				holdAsk(t, g, s, m.letter(), m.below(2) == 0)
			}
			hold(t, g, s, longFew)
		}
	}
}

// TestAlike: R6: two ledgers with the same calls answer the same, in whatever order their maps are gone through.
func TestAlike(t *testing.T) {
	for seed := range 50 {
		m := made(seed)
		a, b := New(), New()
		for range 60 {
			e := m.event()
			if a.Apply(e) != b.Apply(e) || !alikeEvents(a.Events(), b.Events()) {
				t.Fatalf("R6: behind Apply(%v): Events %v and %v", e, a.Events(), b.Events())
			}
		}
	}
}
