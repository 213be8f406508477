package plan

import "odyssey/api"

// group is some of the steps of a definition: the bit i stands for the step i.
type group uint

func (g group) has(i int) bool {
	return g>>i&1 == 1
}

func (g group) with(i int) group {
	return g | 1<<i
}

func (g group) within(other group) bool {
	return g&^other == 0
}

func (g group) meets(other group) bool {
	return g&other != 0
}

// list are the numbers of the steps, rising.
func (g group) list() []int {
	var numbers []int
	for i := range api.MaxSteps {
		if g.has(i) {
			numbers = append(numbers, i)
		}
	}
	return numbers
}
