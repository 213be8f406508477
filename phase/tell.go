package phase

import (
	"slices"

	"odyssey/api"
	"odyssey/plan"
)

// doLetters go to those that are to do a step, undoLetters to those that are to undo one, freeLetters to those that are to let go what the instance held.
func (c course) doLetters() []api.Letter {
	var letters []api.Letter
	for i, step := range c.def.Steps {
		if sent.has(c.inst.Steps[i]) {
			letters = append(letters, api.Letter{Kind: api.LetterDo, Part: step.Part, Inst: c.inst.Id, Step: i, Sort: step.Kind, Keys: slices.Clone(step.Keys)})
		}
	}
	return letters
}

func (c course) undoLetters() []api.Letter {
	var letters []api.Letter
	for _, i := range plan.Undo(c.def, c.inst.Steps) {
		letters = append(letters, api.Letter{Kind: api.LetterUndo, Part: c.def.Steps[i].Part, Inst: c.inst.Id, Step: i})
	}
	return letters
}

func (c course) freeLetters() []api.Letter {
	var letters []api.Letter
	for _, part := range c.held() {
		letters = append(letters, api.Letter{Kind: api.LetterFree, Part: part, Inst: c.inst.Id})
	}
	return letters
}

// history gathers notes that make an instance, which may be and is no brief, what it is.
type history struct {
	of     course
	order  []int
	marked [api.MaxSteps]bool
	notes  []api.Note
}

// tell keeps to one order: what must have come ahead of the turning back, the turning back, what may have come behind it.
func (h *history) tell() []api.Note {
	h.tellOnward()
	h.tellCause()
	h.tellAnswers()
	h.tellUndone()
	h.tellEnd()
	return h.notes
}

func (h *history) add(n api.Note) {
	n.Inst = h.of.inst.Id
	h.notes = append(h.notes, n)
}

func (h *history) mark(i, state int) {
	h.marked[i] = true
	h.add(api.Note{Kind: api.NoteMark, Step: i, State: state})
}

func (h *history) tellOnward() {
	for _, i := range h.order {
		number := h.of.inst.Steps[i]
		if idle.has(number) {
			continue
		}
		h.add(api.Note{Kind: api.NoteIssue, Step: i})
		stays := done.has(number) && h.of.inst.Cause == api.CauseNone
		if stays || some(h.of.statesOf(plan.Behind(h.of.def, i)), whichever&^idle) {
			h.mark(i, api.StepDone)
		}
	}
}

func (h *history) tellCause() {
	switch h.of.inst.Cause {
	case api.CauseCancel:
		h.add(api.Note{Kind: api.NoteCancel})
	case api.CauseLate:
		h.add(api.Note{Kind: api.NoteLate})
	case api.CauseRefused:
		h.mark(slices.Index(h.of.inst.Steps, api.StepNo), api.StepNo)
	case api.CauseBusy:
		h.mark(slices.Index(h.of.inst.Steps, api.StepBusy), api.StepBusy)
	}
}

func (h *history) tellAnswers() {
	if h.of.inst.Cause == api.CauseNone {
		return
	}
	for i, number := range h.of.inst.Steps {
		if !h.marked[i] && (done | refused | busy).has(number) {
			h.mark(i, number)
		}
	}
}

func (h *history) tellUndone() {
	for _, i := range slices.Backward(h.order) {
		if undone.has(h.of.inst.Steps[i]) {
			h.mark(i, api.StepUndone)
		}
	}
}

func (h *history) tellEnd() {
	if h.of.inst.Phase != api.Committed && h.of.inst.Phase != api.Aborted {
		return
	}
	h.add(api.Note{Kind: api.NoteEnd})
	for part, freed := range h.of.inst.Freed {
		if freed == 1 {
			h.add(api.Note{Kind: api.NoteFreed, Part: part})
		}
	}
}
