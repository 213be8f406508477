package ledger

import (
	"slices"

	"odyssey/api"
	"odyssey/codec"
)

// none is the kind of the event where there is nothing to record.
const none = 0

// Ask tells what a letter comes to: the event that is to be recorded (Kind 0: none), and the reply.
func (g *Ledger) Ask(l api.Letter, yes bool) (api.Event, api.Letter, api.Errno) {
	if _, err := codec.Letter(l); err != api.OK {
		return api.Event{}, api.Letter{}, api.ErrArg
	}
	var event, reply int
	switch l.Kind {
	case api.LetterDo:
		event, reply = g.askDo(l, yes)
	case api.LetterUndo:
		event, reply = g.askUndo(l, yes)
	case api.LetterFree:
		event, reply = g.askFree(l)
	default:
		return api.Event{}, api.Letter{}, api.ErrArg
	}
	return eventFor(event, l), api.Letter{Kind: reply, Part: l.Part, Inst: l.Inst, Step: l.Step}, api.OK
}

// askDo tells the kinds of the event and of the reply that a LetterDo comes to; so do askUndo and askFree of theirs.
func (g *Ledger) askDo(l api.Letter, yes bool) (int, int) {
	stands := g.Mark(l.Inst, l.Step)
	if stands != api.MarkNone {
		return none, replyOf(stands)
	}
	if g.Freed(l.Inst) {
		return none, api.LetterNo
	}
	taken := g.othersHave(l.Inst, l.Keys)
	switch {
	case l.Sort == api.Retriable && (taken || !yes):
		return none, api.LetterAgain
	case taken:
		return api.EventBusy, api.LetterBusy
	case !yes:
		return api.EventNo, api.LetterNo
	}
	return api.EventDo, api.LetterDone
}

func (g *Ledger) askUndo(l api.Letter, yes bool) (int, int) {
	freed := g.Freed(l.Inst)
	switch stands := g.Mark(l.Inst, l.Step); {
	case stands == api.MarkDone && (freed || !yes):
		return none, api.LetterAgain
	case stands == api.MarkDone:
		return api.EventUndo, api.LetterUndone
	case stands == api.MarkNone && !freed:
		// The LetterDo may be under way still: it must find the step barred.
		return api.EventBar, api.LetterUndone
	}
	return none, api.LetterUndone
}

func (g *Ledger) askFree(l api.Letter) (int, int) {
	if g.Freed(l.Inst) {
		return none, api.LetterFreed
	}
	return api.EventFree, api.LetterFreed
}

// replyOf is what a LetterDo is answered where the step has a mark.
func replyOf(mark int) int {
	switch mark {
	case api.MarkDone:
		return api.LetterDone
	case api.MarkNo:
		return api.LetterNo
	case api.MarkBusy:
		return api.LetterBusy
	}
	return api.LetterUndone
}

// eventFor is the event of a kind that a letter comes to.
func eventFor(kind int, l api.Letter) api.Event {
	switch kind {
	case none:
		return api.Event{}
	case api.EventDo:
		return api.Event{Kind: kind, Inst: l.Inst, Step: l.Step, Keys: slices.Clone(l.Keys)}
	}
	return api.Event{Kind: kind, Inst: l.Inst, Step: l.Step}
}
