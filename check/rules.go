package check

import (
	"slices"

	"odyssey/api"
)

// pivotAgain is true first of the second pivot.
func pivotAgain(steps []api.Step, i int) bool {
	return steps[i].Kind == api.Pivot && slices.ContainsFunc(steps[:i], isPivot)
}

func isPivot(step api.Step) bool {
	return step.Kind == api.Pivot
}

func outOfOrder(steps []api.Step, i int) bool {
	if steps[i].Kind == api.Retriable {
		return false
	}
	for _, need := range steps[i].Needs {
		if steps[need].Kind != api.Compensatable {
			return true
		}
	}
	return false
}

// inRing tells whether a step needs itself through others.
func inRing(steps []api.Step, i int) bool {
	// Where the search has been it finds nothing new; and a ring that leaves out i would hold it for ever.
	var been [api.MaxSteps]bool
	var leadsBack func(from int) bool
	leadsBack = func(from int) bool {
		been[from] = true
		for _, need := range steps[from].Needs {
			if need == i || !been[need] && leadsBack(need) {
				return true
			}
		}
		return false
	}
	return leadsBack(i)
}

// keyUntaken tells whether a step is retriable and would be the first to take a key: it might find it taken by another instance, and such a step can't give up.
func keyUntaken(steps []api.Step, i int) bool {
	if steps[i].Kind != api.Retriable {
		return false
	}
	for _, key := range steps[i].Keys {
		if !takenEarlier(steps, key) {
			return true
		}
	}
	return false
}

func takenEarlier(steps []api.Step, key string) bool {
	for _, step := range steps {
		if step.Kind != api.Retriable && slices.Contains(step.Keys, key) {
			return true
		}
	}
	return false
}
