package quota

import "odyssey/api"

// units are numbers of records, of each node.
type units [api.Nodes]int

func unitsOf(orch int, parts [api.Parts]int) units {
	u := units{api.Orch: orch}
	copy(u[:], parts[:])
	return u
}

// all tells whether ask is true of each node and its number.
func (u units) all(ask func(node, count int) bool) bool {
	for node, count := range u {
		if !ask(node, count) {
			return false
		}
	}
	return true
}

func (u units) each(do func(node, count int)) {
	for node, count := range u {
		do(node, count)
	}
}

// budgets are what is left. What is spent was covered: no budget falls below 0.
type budgets struct {
	left units
}

func (b *budgets) covers(node, count int) bool { return count <= b.left[node] }

func (b *budgets) spend(node, count int) { b.left[node] -= count }

func (b *budgets) cost() api.Cost {
	c := api.Cost{Orch: b.left[api.Orch]}
	copy(c.Parts[:], b.left[:])
	return c
}
