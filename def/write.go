package def

import (
	"strings"

	"odyssey/api"
	"odyssey/name"
)

// hasText tells whether there is a text of which Parse would tell this definition, but for its length.
func hasText(d api.Def) bool {
	if !name.Is(d.Name) || len(d.Steps) > api.MaxSteps {
		return false
	}
	for i, step := range d.Steps {
		if !stepHasText(step, len(d.Steps)) || nameStands(d.Steps[:i], step.Name) {
			return false
		}
	}
	return true
}

func stepHasText(step api.Step, steps int) bool {
	switch {
	case !name.Is(step.Name):
		return false
	case step.Kind < api.Compensatable || step.Kind > api.Retriable:
		return false
	case step.Part < 0 || step.Part >= api.Parts:
		return false
	}
	return allNames(step.Keys) && rising(step.Needs, steps)
}

func nameStands(steps []api.Step, s string) bool {
	for _, step := range steps {
		if step.Name == s {
			return true
		}
	}
	return false
}

func allNames(texts []string) bool {
	for _, s := range texts {
		if !name.Is(s) {
			return false
		}
	}
	return true
}

// rising tells whether numbers rise from 0 on and stay below an end.
func rising(numbers []int, end int) bool {
	least := 0
	for _, n := range numbers {
		if n < least || n >= end {
			return false
		}
		least = n + 1
	}
	return true
}

// writer gathers a text, and gives up as soon as that is too long, however much there is to come.
type writer struct {
	text strings.Builder
}

func (w *writer) put(piece string) {
	if w.text.Len()+len(piece) > api.MaxText {
		panic(api.ErrLong)
	}
	w.text.WriteString(piece)
}

// write writes a definition that has a text.
func write(d api.Def) (text string, err api.Errno) {
	w := &writer{}
	defer func() {
		if recover() != nil {
			text, err = "", api.ErrLong
		}
	}()
	w.put(d.Name)
	for _, step := range d.Steps {
		w.step(step, d.Steps)
	}
	return w.text.String(), api.OK
}

func (w *writer) step(step api.Step, steps []api.Step) {
	w.put(string(clauseEnd))
	w.word(kindWords[step.Kind])
	w.word(step.Name)
	w.word(string(partSign) + string(rune('0'+step.Part)))
	for _, key := range step.Keys {
		w.word(string(keySign) + key)
	}
	for _, need := range step.Needs {
		w.word(string(needSign) + steps[need].Name)
	}
}

func (w *writer) word(s string) { w.put(" " + s) }
