package phase

import (
	"odyssey/api"
	"odyssey/check"
	"odyssey/codec"
	"odyssey/plan"
)

// mayBe asks for the definition first and for the number of steps next: what follows goes by both.
func (c course) mayBe() bool {
	if _, err := check.Check(c.def); err != api.OK || c.inst.Name != c.def.Name || !beginMayBe(c.inst) {
		return false
	}
	if len(c.inst.Steps) == 0 {
		return briefMayBe(c.inst)
	}
	return len(c.inst.Steps) == len(c.def.Steps) && c.fitsPhase() && c.freedMayBe() && c.inOrder()
}

// beginMayBe tells whether what an instance has from its NoteStart on may be.
func beginMayBe(x api.Inst) bool {
	_, err := codec.Note(api.Note{Kind: api.NoteStart, Inst: x.Id, Key: x.Key, Name: x.Name, Version: x.Version})
	return err == api.OK
}

func briefMayBe(x api.Inst) bool {
	_, err := codec.Note(briefNote(x))
	return err == api.OK && x.Freed == [api.Parts]int{}
}

// briefNote is the note that makes a brief what it is.
func briefNote(x api.Inst) api.Note {
	return api.Note{Kind: api.NoteBrief, Inst: x.Id, State: x.Phase, Cause: x.Cause}
}

// fitsPhase tells whether the states and the cause are such as the phase asks for.
func (c course) fitsPhase() bool {
	onward := c.inst.Cause == api.CauseNone
	switch c.inst.Phase {
	case api.Forward:
		return onward && c.stands(idle|sent|done, idle, idle) && !c.past()
	case api.Sealed:
		// Without a pivot there is nothing that could seal it.
		return onward && c.stands(done, sent, idle) && !c.past()
	case api.Committed:
		if !all(c.inst.Steps, done) || len(c.held()) == 0 {
			return false
		}
		fallthrough
	case api.Completing:
		return onward && c.stands(done, done, idle|sent|done)
	case api.Aborted:
		if some(c.inst.Steps, sent|done) || len(c.held()) == 0 {
			return false
		}
		fallthrough
	case api.Backward:
		return c.fitsCause()
	}
	return false
}

// fitsCause tells whether the states are such as the cause of an instance that turned back asks for. (That all compensatable steps are done or undone where the pivot is not idle, inOrder asks: they are ahead of it.)
func (c course) fitsCause() bool {
	if c.stands(0, 0, whichever) {
		return false // all steps are retriable: such an instance never turns back
	}
	switch c.inst.Cause {
	case api.CauseCancel, api.CauseLate:
		return c.stands(whichever, idle, idle)
	case api.CauseRefused:
		return c.stands(whichever, idle|refused, idle) && some(c.inst.Steps, refused)
	case api.CauseBusy:
		return c.stands(whichever, idle|busy, idle) && some(c.inst.Steps, busy)
	}
	return false
}

func (c course) freedMayBe() bool {
	ended := c.inst.Phase == api.Committed || c.inst.Phase == api.Aborted
	for part, freed := range c.inst.Freed {
		if freed != 0 && (freed != 1 || !ended || !c.named(part)) {
			return false
		}
	}
	return true
}

// inOrder tells whether steps were done behind those ahead of them, and undone behind those behind them.
func (c course) inOrder() bool {
	for i, number := range c.inst.Steps {
		if idle.hasNot(number) && !all(c.statesOf(plan.Ahead(c.def, i)), done|undone) {
			return false
		}
		if undone.has(number) && some(c.statesOf(plan.Behind(c.def, i)), sent|done) {
			return false
		}
	}
	return true
}
