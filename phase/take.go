package phase

import (
	"slices"

	"odyssey/api"
	"odyssey/plan"
)

// take does a note, where it can come: else it tells false, and has changed nothing. The course may be, and so may the note.
func (c *course) take(n api.Note) bool {
	if Closed(c.inst) {
		return false
	}
	switch n.Kind {
	case api.NoteCancel:
		return c.giveUp(api.CauseCancel)
	case api.NoteLate:
		return c.giveUp(api.CauseLate)
	case api.NoteIssue:
		return c.issue(n.Step)
	case api.NoteMark:
		return c.mark(n.Step, n.State)
	case api.NoteEnd:
		return c.end()
	case api.NoteFreed:
		return c.letGo(n.Part)
	case api.NoteBrief:
		return c.shorten(n.State, n.Cause)
	}
	return false
}

func (c *course) giveUp(cause int) bool {
	if c.inst.Phase != api.Forward {
		return false
	}
	c.turnBack(cause)
	return true
}

func (c *course) turnBack(cause int) {
	c.inst.Phase, c.inst.Cause = api.Backward, cause
}

// pass makes an instance complete that nothing can turn back any more.
func (c *course) pass() {
	if c.past() {
		c.inst.Phase = api.Completing
	}
}

func (c *course) issue(i int) bool {
	goesOn := c.inst.Phase == api.Forward || c.inst.Phase == api.Completing
	if !goesOn || !slices.Contains(plan.Ready(c.def, c.inst.Steps), i) {
		return false
	}
	c.inst.Steps[i] = api.StepSent
	if c.def.Steps[i].Kind == api.Pivot {
		c.inst.Phase = api.Sealed
	}
	return true
}

func (c *course) mark(i, state int) bool {
	if !c.markFits(i, state) {
		return false
	}
	c.inst.Steps[i] = state
	if c.inst.Phase == api.Backward {
		return true
	}
	switch state {
	case api.StepDone:
		c.pass()
	case api.StepNo:
		c.turnBack(api.CauseRefused)
	case api.StepBusy:
		c.turnBack(api.CauseBusy)
	}
	return true
}

func (c *course) markFits(i, state int) bool {
	switch state {
	case api.StepUndone:
		return c.inst.Phase == api.Backward && slices.Contains(plan.Undo(c.def, c.inst.Steps), i)
	case api.StepNo, api.StepBusy:
		// What is left then is done, come what may.
		if c.inst.Phase == api.Completing {
			return false
		}
		fallthrough
	case api.StepDone:
		return i < len(c.inst.Steps) && sent.has(c.inst.Steps[i])
	}
	return false
}

func (c *course) end() bool {
	switch {
	case c.inst.Phase == api.Completing && all(c.inst.Steps, done):
		c.inst.Phase = api.Committed
	case c.inst.Phase == api.Backward && !some(c.inst.Steps, sent|done):
		c.inst.Phase = api.Aborted
	default:
		return false
	}
	return true
}

func (c *course) letGo(part int) bool {
	ended := c.inst.Phase == api.Committed || c.inst.Phase == api.Aborted
	if !ended || !slices.Contains(c.held(), part) {
		return false
	}
	c.inst.Freed[part] = 1
	if len(c.held()) == 0 {
		c.inst = brief(c.inst, c.inst.Phase, c.inst.Cause)
	}
	return true
}

func (c *course) shorten(phase, cause int) bool {
	goesOn := c.inst.Phase == api.Forward || c.inst.Phase == api.Completing
	if !goesOn || !all(c.inst.Steps, idle) {
		return false
	}
	c.inst = brief(c.inst, phase, cause)
	return true
}

// brief is what is kept of an instance that ended so.
func brief(x api.Inst, phase, cause int) api.Inst {
	return api.Inst{Id: x.Id, Key: x.Key, Name: x.Name, Version: x.Version, Phase: phase, Cause: cause}
}
