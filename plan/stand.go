package plan

import "odyssey/api"

// stand is how the steps of a definition stand.
type stand struct {
	web    web
	states []int
}

func (s stand) mayBe() bool {
	if len(s.states) != s.web.count {
		return false
	}
	for _, state := range s.states {
		if state < api.StepIdle || state > api.StepUndone {
			return false
		}
	}
	return true
}

func (s stand) ready(i int) bool {
	return s.states[i] == api.StepIdle && s.web.ahead[i].within(s.web.those(s.done))
}

func (s stand) undo(i int) bool {
	return s.open(i) && !s.web.behind(i).meets(s.web.those(s.open))
}

func (s stand) done(i int) bool {
	return s.states[i] == api.StepDone
}

// open tells whether a step may have been done, and was not undone.
func (s stand) open(i int) bool {
	return s.states[i] == api.StepSent || s.states[i] == api.StepDone
}
