package plan

import (
	"slices"
	"testing"

	"odyssey/api"
	"odyssey/check"
)

// made is a row of numbers that follow a fixed rule.
type made uint64

func (m *made) below(n int) int {
	*m = *m*6364136223846793005 + 1442695040888963407
	return int(uint64(*m) >> 33 % uint64(n))
}

// slow holds which step is ahead of which: a pair (a, b), if a is ahead of b.
type slow struct {
	n     int
	ahead map[[2]int]bool
}

// slowly follows the chapter's words: what is directly behind first, and through others till nothing new comes.
func slowly(d api.Def) slow {
	s := slow{len(d.Steps), map[[2]int]bool{}}
	for i, step := range d.Steps {
		for _, need := range step.Needs {
			s.ahead[[2]int{need, i}] = true
		}
		for k, other := range d.Steps {
			late := step.Kind == 2 && other.Kind == 1 || step.Kind == 3 && other.Kind != 3
			if late {
				s.ahead[[2]int{k, i}] = true
			}
		}
	}
	for grown := true; grown; {
		grown = false
		for a := range s.n {
			for b := range s.n {
				for c := range s.n {
					if s.ahead[[2]int{a, b}] && s.ahead[[2]int{b, c}] && !s.ahead[[2]int{a, c}] {
						s.ahead[[2]int{a, c}] = true
						grown = true
					}
				}
			}
		}
	}
	return s
}

func (s slow) those(ask func(k int) bool) []int {
	var list []int
	for k := range s.n {
		if ask(k) {
			list = append(list, k)
		}
	}
	return list
}

func (s slow) order() []int {
	var told []int
	for len(told) < s.n {
		i := slices.Min(s.those(func(k int) bool {
			waits := s.those(func(a int) bool { return s.ahead[[2]int{a, k}] && !slices.Contains(told, a) })
			return !slices.Contains(told, k) && len(waits) == 0
		}))
		told = append(told, i)
	}
	return told
}

func (s slow) ready(states []int) []int {
	return s.those(func(k int) bool {
		for a := range s.n {
			if s.ahead[[2]int{a, k}] && states[a] != 2 {
				return false
			}
		}
		return states[k] == 0
	})
}

func (s slow) undo(states []int) []int {
	open := func(k int) bool { return states[k] == 1 || states[k] == 2 }
	return s.those(func(k int) bool {
		for b := range s.n {
			if s.ahead[[2]int{k, b}] && open(b) {
				return false
			}
		}
		return open(k)
	})
}

func same(t *testing.T, promise string, d api.Def, got, want []int) {
	t.Helper()
	if !slices.Equal(got, want) {
		t.Fatalf("%s: %v: %v, want %v", promise, d, got, want)
	}
}

// holdStill holds all that hangs on the definition alone against its likeness, and against P12.1 and P12.2.
func holdStill(t *testing.T, d api.Def) slow {
	t.Helper()
	s := slowly(d)
	for i := range d.Steps {
		ahead, behind := Ahead(d, i), Behind(d, i)
		same(t, "L1: Ahead", d, ahead, s.those(func(k int) bool { return s.ahead[[2]int{k, i}] }))
		same(t, "L1: Behind", d, behind, s.those(func(k int) bool { return s.ahead[[2]int{i, k}] }))
		if slices.Contains(ahead, i) || slices.Contains(behind, i) {
			t.Fatalf("P12.1: %v: the step %d is ahead of itself", d, i)
		}
		for _, k := range ahead {
			if !slices.Contains(Behind(d, k), i) {
				t.Fatalf("P12.1: %v: %d is ahead of %d, but %d isn't behind it", d, k, i, i)
			}
			for _, further := range Ahead(d, k) {
				if !slices.Contains(ahead, further) {
					t.Fatalf("P12.1: %v: %d, %d, %d", d, further, k, i)
				}
			}
		}
		for _, k := range behind {
			if !slices.Contains(Ahead(d, k), i) {
				t.Fatalf("P12.1: %v: %d is behind %d, but %d isn't ahead of it", d, k, i, i)
			}
		}
	}
	order := slices.Collect(Order(d))
	same(t, "L2: Order", d, order, s.order())
	holdOrder(t, d, order)
	return s
}

func holdOrder(t *testing.T, d api.Def, order []int) {
	t.Helper()
	kind := 0
	for at, i := range order {
		for _, k := range Ahead(d, i) {
			if !slices.Contains(order[:at], k) {
				t.Fatalf("P12.2: %v: %v: %d stands ahead of %d", d, order, i, k)
			}
		}
		if slices.Contains(order[:at], i) || d.Steps[i].Kind < kind {
			t.Fatalf("P12.2: %v: %v: %d stands twice, or its kind behind a later one", d, order, i)
		}
		kind = d.Steps[i].Kind
	}
	if len(order) != len(d.Steps) {
		t.Fatalf("P12.2: %v: %v lacks a step", d, order)
	}
}

func holdStates(t *testing.T, d api.Def, s slow, states []int) {
	t.Helper()
	same(t, "L3: Ready", d, Ready(d, states), s.ready(states))
	same(t, "L3: Undo", d, Undo(d, states), s.undo(states))
}

// everyDef goes through all definitions of n steps without keys that may be.
func everyDef(n int, see func(api.Def)) {
	d := api.Def{Name: "a", Steps: make([]api.Step, n)}
	var from func(i int)
	from = func(i int) {
		if i == n {
			if _, err := check.Check(d); err == api.OK {
				see(d)
			}
			return
		}
		for choice := range 3 << n {
			var needs []int
			for k := range n {
				if choice>>k&1 == 1 {
					needs = append(needs, k)
				}
			}
			if slices.Contains(needs, i) {
				continue
			}
			d.Steps[i] = api.Step{Name: string(rune('a' + i)), Kind: 1 + choice>>n, Needs: needs}
			from(i + 1)
		}
	}
	from(0)
}

// everyStates goes through all states of n steps.
func everyStates(n int, see func([]int)) {
	states := make([]int, n)
	var from func(i int)
	from = func(i int) {
		if i == n {
			see(states)
			return
		}
		for states[i] = range 6 {
			from(i + 1)
		}
	}
	from(0)
}

// allDone goes every way from these states on: whichever is ready becomes done.
func allDone(t *testing.T, d api.Def, states []int) {
	t.Helper()
	left := 0
	for _, state := range states {
		if state != api.StepDone {
			left++
		}
	}
	ready := Ready(d, states)
	if left > 0 == (len(ready) == 0) {
		t.Fatalf("P12.3: %v, %v: %v is ready", d, states, ready)
	}
	for _, i := range ready {
		if states[i] != api.StepIdle {
			t.Fatalf("P12.3: %v, %v: %d is ready", d, states, i)
		}
		states[i] = api.StepDone
		allDone(t, d, states)
		states[i] = api.StepIdle
	}
}

// allUndone goes every way from these states on: whichever may be undone becomes undone.
func allUndone(t *testing.T, d api.Def, states []int) {
	t.Helper()
	open := 0
	for _, state := range states {
		if state == api.StepSent || state == api.StepDone {
			open++
		}
	}
	undo := Undo(d, states)
	if open > 0 == (len(undo) == 0) {
		t.Fatalf("P12.4: %v, %v: %v may be undone", d, states, undo)
	}
	for _, i := range undo {
		was := states[i]
		if was != api.StepSent && was != api.StepDone {
			t.Fatalf("P12.4: %v, %v: %d may be undone", d, states, i)
		}
		states[i] = api.StepUndone
		allUndone(t, d, states)
		states[i] = was
	}
}

func TestEverySmallDef(t *testing.T) {
	m := made(12)
	for n := 1; n <= 4; n++ {
		seen := 0
		everyDef(n, func(d api.Def) {
			seen++
			s := holdStill(t, d)
			if n == 4 {
				for range 6 {
					holdStates(t, d, s, m.states(4))
				}
				return
			}
			everyStates(n, func(states []int) {
				holdStates(t, d, s, states)
				allUndone(t, d, states)
			})
			allDone(t, d, make([]int, n))
		})
		if seen < n*n*n {
			t.Errorf("only %d definitions of %d steps may be", seen, n)
		}
	}
}

func (m *made) states(n int) []int {
	states := make([]int, n)
	few := 1 + m.below(6)
	for i := range states {
		states[i] = m.below(few)
		if m.below(3) == 0 {
			states[i] = api.StepDone
		}
	}
	return states
}

// def is a definition that may be: the steps' places are a row of their own, so that needs go to and fro.
func (m *made) def(n int) api.Def {
	places := m.places(n)
	d := api.Def{Name: "a", Steps: make([]api.Step, n)}
	pivot, thick := m.below(n+2), 1+m.below(5)
	for at, i := range places {
		d.Steps[i] = api.Step{Name: string(rune('a' + i)), Kind: api.Compensatable, Part: m.below(4)}
		if at == pivot {
			d.Steps[i].Kind = api.Pivot
		} else if at > pivot {
			d.Steps[i].Kind = api.Retriable
		}
		for _, k := range places[:at] {
			if m.below(thick) == 0 {
				d.Steps[i].Needs = append(d.Steps[i].Needs, k)
			}
		}
		slices.Sort(d.Steps[i].Needs)
	}
	return d
}

func (m *made) places(n int) []int {
	var places []int
	for i := range n {
		places = slices.Insert(places, m.below(i+1), i)
	}
	return places
}

func TestManyDefs(t *testing.T) {
	m := made(1212)
	for range 3000 {
		n := 4 + m.below(5)
		d := m.def(n)
		if i, err := check.Check(d); err != api.OK {
			t.Fatalf("%v may not be: %d, %d", d, i, err)
		}
		s := holdStill(t, d)
		for range 20 {
			holdStates(t, d, s, m.states(n))
		}
		oneWayDone(t, &m, d)
		oneWayUndone(t, &m, d, m.states(n))
	}
}

func oneWayDone(t *testing.T, m *made, d api.Def) {
	t.Helper()
	states := make([]int, len(d.Steps))
	for range d.Steps {
		ready := Ready(d, states)
		if len(ready) == 0 {
			t.Fatalf("P12.3: %v, %v: none is ready", d, states)
		}
		states[ready[m.below(len(ready))]] = api.StepDone
	}
	if slices.Min(states) != api.StepDone || len(Ready(d, states)) > 0 {
		t.Fatalf("P12.3: %v: %v in the end", d, states)
	}
}

func oneWayUndone(t *testing.T, m *made, d api.Def, states []int) {
	t.Helper()
	for range len(d.Steps) + 1 {
		undo := Undo(d, states)
		if len(undo) == 0 {
			break
		}
		states[undo[m.below(len(undo))]] = api.StepUndone
	}
	if slices.Contains(states, api.StepSent) || slices.Contains(states, api.StepDone) {
		t.Fatalf("P12.4: %v: %v in the end", d, states)
	}
}
