package codec

import (
	"odyssey/api"
	"odyssey/name"
)

const (
	letterMark = "L"
	eventMark  = "E"
	noteMark   = "N"
)

type letter api.Letter

func (l letter) mayBe() bool {
	if !between(l.Kind, api.LetterDo, api.LetterFreed) || !isPart(l.Part) || !isID(l.Inst) {
		return false
	}
	switch l.Kind {
	case api.LetterDo:
		return isStep(l.Step) && between(l.Sort, api.Compensatable, api.Retriable) && areKeys(l.Keys)
	case api.LetterFree, api.LetterFreed:
		return l.Step == 0 && l.Sort == 0 && len(l.Keys) == 0
	}
	return isStep(l.Step) && l.Sort == 0 && len(l.Keys) == 0
}

func (l letter) form() string {
	switch l.Kind {
	case api.LetterDo:
		return letterMark + nums(l.Kind, l.Part, l.Inst, l.Step, l.Sort) + list(l.Keys)
	case api.LetterFree, api.LetterFreed:
		return letterMark + nums(l.Kind, l.Part, l.Inst)
	}
	return letterMark + nums(l.Kind, l.Part, l.Inst, l.Step)
}

type event api.Event

func (e event) mayBe() bool {
	if !between(e.Kind, api.EventDo, api.EventFree) || !isID(e.Inst) {
		return false
	}
	switch e.Kind {
	case api.EventDo:
		return isStep(e.Step) && areKeys(e.Keys)
	case api.EventFree:
		return e.Step == 0 && len(e.Keys) == 0
	}
	return isStep(e.Step) && len(e.Keys) == 0
}

func (e event) form() string {
	switch e.Kind {
	case api.EventDo:
		return eventMark + nums(e.Kind, e.Inst, e.Step) + list(e.Keys)
	case api.EventFree:
		return eventMark + nums(e.Kind, e.Inst)
	}
	return eventMark + nums(e.Kind, e.Inst, e.Step)
}

type note api.Note

func (n note) mayBe() bool {
	// Held against the whole note at the end: a field that the kind does not name must be zero.
	named := note{Kind: n.Kind, Inst: n.Inst}
	fits := isID(n.Inst)
	switch n.Kind {
	case api.NoteDef:
		named = note{Kind: n.Kind, Text: n.Text}
		fits = between(len(n.Text), 1, api.MaxText)
	case api.NoteStart:
		named.Key, named.Name, named.Version = n.Key, n.Name, n.Version
		fits = fits && name.Is(n.Key) && name.Is(n.Name) && between(n.Version, 1, api.MaxDefs)
	case api.NoteCancel, api.NoteLate, api.NoteEnd:
	case api.NoteIssue:
		named.Step = n.Step
		fits = fits && isStep(n.Step)
	case api.NoteMark:
		named.Step, named.State = n.Step, n.State
		fits = fits && isStep(n.Step) && between(n.State, api.StepDone, api.StepUndone)
	case api.NoteFreed:
		named.Part = n.Part
		fits = fits && isPart(n.Part)
	case api.NoteBrief:
		named.State, named.Cause = n.State, n.Cause
		fits = fits && isEnd(n.State, n.Cause)
	default:
		return false
	}
	return fits && n == named
}

func (n note) form() string {
	switch n.Kind {
	case api.NoteDef:
		return noteMark + nums(n.Kind) + text(n.Text)
	case api.NoteStart:
		return noteMark + nums(n.Kind, n.Inst) + text(n.Key) + text(n.Name) + nums(n.Version)
	case api.NoteIssue:
		return noteMark + nums(n.Kind, n.Inst, n.Step)
	case api.NoteMark:
		return noteMark + nums(n.Kind, n.Inst, n.Step, n.State)
	case api.NoteFreed:
		return noteMark + nums(n.Kind, n.Inst, n.Part)
	case api.NoteBrief:
		return noteMark + nums(n.Kind, n.Inst, n.State, n.Cause)
	}
	return noteMark + nums(n.Kind, n.Inst)
}

func between(n, least, most int) bool {
	return least <= n && n <= most
}

func isID(n int) bool { return between(n, 1, api.MaxInst) }

func isStep(n int) bool { return between(n, 0, api.MaxSteps-1) }

func isPart(n int) bool { return between(n, 0, api.Parts-1) }

// isEnd tells whether an instance may have ended in this phase with this cause.
func isEnd(phase, cause int) bool {
	switch phase {
	case api.Committed:
		return cause == api.CauseNone
	case api.Aborted:
		return between(cause, api.CauseCancel, api.CauseBusy)
	}
	return false
}

func areKeys(keys []string) bool {
	if len(keys) > api.MaxKeys {
		return false
	}
	for i, key := range keys {
		if !name.Is(key) || i > 0 && name.Compare(keys[i-1], key) >= 0 {
			return false
		}
	}
	return true
}
