package cost

import (
	"slices"
	"testing"

	"odyssey/api"
	"odyssey/check"
)

// made is a row of numbers that follow a fixed rule.
type made uint64

func (m *made) below(n int) int {
	*m = *m*6364136223846793005 + 1442695040888963407
	return int(uint64(*m) >> 33 % uint64(n))
}

// slowNamed goes participant by participant, slowCost node by node, each over all steps, as the chapter's words do.
func slowNamed(d api.Def) []int {
	var named []int
	for part := range 4 {
		if slices.ContainsFunc(d.Steps, func(s api.Step) bool { return s.Part == part }) {
			named = append(named, part)
		}
	}
	return named
}

func slowCost(d api.Def) api.Cost {
	c := api.Cost{Orch: 3 + len(slowNamed(d))}
	for _, step := range d.Steps {
		if step.Kind == 1 {
			c.Orch += 3
		} else {
			c.Orch += 2
		}
	}
	for _, part := range slowNamed(d) {
		c.Parts[part] = 1
		for _, step := range d.Steps {
			if step.Part == part && step.Kind == 1 {
				c.Parts[part] += 2
			} else if step.Part == part {
				c.Parts[part]++
			}
		}
	}
	return c
}

func hold(t *testing.T, d api.Def) api.Cost {
	t.Helper()
	if i, err := check.Check(d); err != api.OK {
		t.Fatalf("%v may not be: %d, %d", d, i, err)
	}
	c, err := Of(d)
	if want := slowCost(d); c != want || err != api.OK {
		t.Fatalf("P13.1: %v: %v, %d, want %v", d, c, err, want)
	}
	if got, want := Named(d), slowNamed(d); !slices.Equal(got, want) {
		t.Fatalf("P13.2: %v: %v, want %v", d, got, want)
	}
	return c
}

// holdMore: what the definition with one step more costs.
func holdMore(t *testing.T, few, more api.Def) {
	t.Helper()
	a, b := hold(t, few), hold(t, more)
	if b.Orch <= a.Orch {
		t.Fatalf("P13.4: %v costs %d at the orchestrator, %v %d", few, a.Orch, more, b.Orch)
	}
	for part := range a.Parts {
		if b.Parts[part] < a.Parts[part] {
			t.Fatalf("P13.4: at %d %v costs %d, %v %d", part, few, a.Parts[part], more, b.Parts[part])
		}
	}
}

// without is a definition with one step left out, and with it the needs of it.
func without(d api.Def, i int) api.Def {
	less := api.Def{Name: d.Name}
	for k, step := range d.Steps {
		if k == i {
			continue
		}
		var needs []int
		for _, need := range step.Needs {
			if need < i {
				needs = append(needs, need)
			} else if need > i {
				needs = append(needs, need-1)
			}
		}
		step.Needs = needs
		less.Steps = append(less.Steps, step)
	}
	return less
}

// TestEverySmallDef: all kinds and participants of up to four steps.
func TestEverySmallDef(t *testing.T) {
	seen := 0
	d := api.Def{Name: "a"}
	var grow func(pivots int)
	grow = func(pivots int) {
		if len(d.Steps) == 4 {
			return
		}
		for choice := range 12 {
			kind := 1 + choice%3
			if kind == api.Pivot && pivots > 0 {
				continue
			}
			few := d
			d.Steps = append(slices.Clone(d.Steps), api.Step{Name: string(rune('b' + len(d.Steps))), Kind: kind, Part: choice / 3})
			seen++
			if len(few.Steps) == 0 {
				hold(t, d)
			} else {
				holdMore(t, few, d)
			}
			more := pivots
			if kind == api.Pivot {
				more++
			}
			grow(more)
			d = few
		}
	}
	grow(0)
	if seen != 8+4+64+64+512+3*64*4+4096+4*512*4 {
		t.Errorf("%d definitions were seen", seen)
	}
}

// def is a definition that may be: each step needs some of those ahead.
func (m *made) def(n int) api.Def {
	d := api.Def{Name: "a"}
	pivot, parts := m.below(n+2), 1+m.below(4)
	for i := range n {
		step := api.Step{Name: string(rune('b' + i)), Kind: api.Compensatable, Part: (parts + m.below(parts)) % 4}
		if i == pivot {
			step.Kind = api.Pivot
		} else if i > pivot {
			step.Kind = api.Retriable
		}
		for k := range i {
			if m.below(3) == 0 {
				step.Needs = append(step.Needs, k)
			}
		}
		if step.Kind != api.Retriable && m.below(2) == 0 {
			step.Keys = []string{[]string{"d", "a", "b", "c"}[step.Part]}
		}
		d.Steps = append(d.Steps, step)
	}
	return d
}

func TestManyDefs(t *testing.T) {
	m := made(13)
	for range 5000 {
		d := m.def(2 + m.below(7))
		for i := range d.Steps {
			holdMore(t, without(d, i), d)
		}
	}
}
