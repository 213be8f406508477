package plan

import (
	"odyssey/api"
	"odyssey/check"
)

// web tells which steps are ahead of which. It keeps nothing of the definition, since an order must not see what becomes of that later.
type web struct {
	count int
	ahead [api.MaxSteps]group
}

// weave makes the web of a definition: one without steps, if the definition may not be.
func weave(d api.Def) web {
	if _, err := check.Check(d); err != api.OK {
		return web{}
	}
	w := web{count: len(d.Steps)}
	for i := range d.Steps {
		w.ahead[i] = directlyAhead(d.Steps, i)
	}
	// The order is the same by what is directly ahead as by all that is: and when it comes to a step, what is ahead of those ahead of it is whole.
	for i := range w.order {
		for _, k := range w.ahead[i].list() {
			w.ahead[i] |= w.ahead[k]
		}
	}
	return w
}

func directlyAhead(steps []api.Step, i int) group {
	var g group
	for _, need := range steps[i].Needs {
		g = g.with(need)
	}
	for k, step := range steps {
		// Kinds are numbered in the order in which they are done.
		if step.Kind < steps[i].Kind {
			g = g.with(k)
		}
	}
	return g
}

func (w web) hasStep(i int) bool {
	return i >= 0 && i < w.count
}

func (w web) behind(i int) group {
	var g group
	for k := range w.count {
		if w.ahead[k].has(i) {
			g = g.with(k)
		}
	}
	return g
}

// those are the steps of which ask tells true.
func (w web) those(ask func(int) bool) group {
	var g group
	for i := range w.count {
		if ask(i) {
			g = g.with(i)
		}
	}
	return g
}

// order is an iterator: what was told is its own in each range, so that one may run within another.
func (w web) order(yield func(int) bool) {
	var told group
	for i, is := w.next(told); is; i, is = w.next(told) {
		if !yield(i) {
			return
		}
		told = told.with(i)
	}
}

// next is the least step that was not told yet, of which all steps ahead were.
func (w web) next(told group) (int, bool) {
	for i := range w.count {
		if !told.has(i) && w.ahead[i].within(told) {
			return i, true
		}
	}
	return 0, false
}
