package registry

import "odyssey/api"

// fixed is a definition that may be, as a value without lists: == tells whether two are the same, and nobody can share it. Where there is no step or key its name is empty, which no name is.
type fixed struct {
	name  string
	steps [api.MaxSteps]fixedStep
}

type fixedStep struct {
	name  string
	kind  int
	part  int
	keys  [api.MaxKeys]string
	needs [api.MaxSteps]bool
}

// fix asks for a definition that may be: in another one the lists may be too long, or needs in no order.
func fix(d api.Def) fixed {
	f := fixed{name: d.Name}
	for i, step := range d.Steps {
		f.steps[i] = fixStep(step)
	}
	return f
}

func fixStep(step api.Step) fixedStep {
	f := fixedStep{name: step.Name, kind: step.Kind, part: step.Part}
	for i, key := range step.Keys {
		f.keys[i] = key
	}
	for _, need := range step.Needs {
		f.needs[need] = true
	}
	return f
}

// def is the definition, all its lists made anew.
func (f fixed) def() api.Def {
	d := api.Def{Name: f.name}
	for _, step := range f.steps {
		if step.name == "" {
			break
		}
		d.Steps = append(d.Steps, step.step())
	}
	return d
}

func (f fixedStep) step() api.Step {
	step := api.Step{Name: f.name, Kind: f.kind, Part: f.part}
	for _, key := range f.keys {
		if key == "" {
			break
		}
		step.Keys = append(step.Keys, key)
	}
	for need, is := range f.needs {
		if is {
			step.Needs = append(step.Needs, need)
		}
	}
	return step
}
