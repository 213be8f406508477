package phase

import (
	"slices"

	"odyssey/api"
)

// states are some of the states that a step may be in.
type states uint

// Each state is a bit; they stand in the order of api's numbers.
const (
	idle states = 1 << iota
	sent
	done
	refused
	busy
	undone

	whichever = idle | sent | done | refused | busy | undone
)

// has tells whether a state's number is one of these. A number that is no state's has no bit in any; below 0 there is not even a shift.
func (s states) has(number int) bool {
	return number >= 0 && s>>number&1 == 1
}

func (s states) hasNot(number int) bool { return !s.has(number) }

func all(numbers []int, s states) bool { return !slices.ContainsFunc(numbers, s.hasNot) }

func some(numbers []int, s states) bool { return slices.ContainsFunc(numbers, s.has) }

// course is an instance, and the definition that it goes by.
type course struct {
	def  api.Def
	inst api.Inst
}

// statesOf are the numbers of the states of some steps.
func (c course) statesOf(steps []int) []int {
	numbers := make([]int, len(steps))
	for at, i := range steps {
		numbers[at] = c.inst.Steps[i]
	}
	return numbers
}

// stands tells whether each step is in one of the states that go with its kind.
func (c course) stands(compensatable, pivot, retriable states) bool {
	byKind := [...]states{api.Compensatable: compensatable, api.Pivot: pivot, api.Retriable: retriable}
	for i, step := range c.def.Steps {
		if !byKind[step.Kind].has(c.inst.Steps[i]) {
			return false
		}
	}
	return true
}

// past tells whether all that could turn the instance back is done: without a pivot the last compensatable step does what the pivot does.
func (c course) past() bool { return c.stands(done, done, whichever) }

func (c course) named(part int) bool {
	return slices.ContainsFunc(c.def.Steps, func(step api.Step) bool { return step.Part == part })
}

// held are the participants that are named, and have not let go what the instance held.
func (c course) held() []int {
	var parts []int
	for part, freed := range c.inst.Freed {
		if freed == 0 && c.named(part) {
			parts = append(parts, part)
		}
	}
	return parts
}
