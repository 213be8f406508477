package cost

import (
	"odyssey/api"
	"odyssey/check"
)

// records are how many records are needed, of each node.
type records [api.Nodes]int

// reckon tells what an instance may need of each node. Nothing stands for a definition that may not be: every other one needs something.
func reckon(d api.Def) records {
	if _, err := check.Check(d); err != api.OK {
		return records{}
	}
	sum := ofEach()
	for _, step := range d.Steps {
		if sum[step.Part] == 0 {
			sum = sum.and(ofNamed(step.Part))
		}
		sum = sum.and(ofStep(step))
	}
	return sum
}

// ofEach is for the start of an instance, for what turns it back, and for its end.
func ofEach() records {
	return records{api.Orch: 3}
}

// ofNamed is for letting go what the instance held, at the participant and as the orchestrator notes it.
func ofNamed(part int) records {
	one := records{api.Orch: 1}
	one[part] = 1
	return one
}

// ofStep is for sending and doing a step; only a compensatable one may be undone, too.
func ofStep(step api.Step) records {
	one := records{api.Orch: 2}
	one[step.Part] = 1
	if step.Kind == api.Compensatable {
		one[api.Orch]++
		one[step.Part]++
	}
	return one
}

func (r records) and(more records) records {
	for node, count := range more {
		r[node] += count
	}
	return r
}
