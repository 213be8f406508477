package quota

import (
	"testing"

	"odyssey/api"
)

// made is a row of numbers that follow a fixed rule.
type made uint64

func (m *made) below(n int) int {
	*m = *m*6364136223846793005 + 1442695040888963407
	return int(uint64(*m) >> 33 % uint64(n))
}

// slow is a quota by its definition: what it was given, and all that was admitted ever.
type slow struct {
	most     int
	given    api.Cost
	admitted []api.Cost
	closed   int
}

func (s *slow) left() (int, api.Cost) {
	left := s.given
	for _, c := range s.admitted {
		left.Orch -= c.Orch
		for part := range c.Parts {
			left.Parts[part] -= c.Parts[part]
		}
	}
	return len(s.admitted) - s.closed, left
}

func (s *slow) admit(c api.Cost) api.Errno {
	live, left := s.left()
	for node := range api.Nodes {
		if of(c, node) < 0 {
			return api.ErrArg
		}
	}
	if live == s.most {
		return api.ErrQuotaLive
	}
	if c.Orch > left.Orch {
		return api.ErrQuotaOrch
	}
	for part := range c.Parts {
		if c.Parts[part] > left.Parts[part] {
			return api.ErrQuotaPart
		}
	}
	s.admitted = append(s.admitted, c)
	return api.OK
}

func (s *slow) close() api.Errno {
	if s.closed == len(s.admitted) {
		return api.ErrArg
	}
	s.closed++
	return api.OK
}

func of(c api.Cost, node int) int {
	if node == api.Orch {
		return c.Orch
	}
	return c.Parts[node]
}

func hold(t *testing.T, q *Quota, s *slow) {
	t.Helper()
	live, left := s.left()
	mustLeft(t, "P15.5", q, live, left)
}

func both(t *testing.T, most int, given api.Cost) (*Quota, *slow) {
	t.Helper()
	return mustNew(t, most, given.Orch, given.Parts[:]...), &slow{most: most, given: given}
}

// TestEveryShortRow: all rows of six calls of seven, on small quotas.
func TestEveryShortRow(t *testing.T) {
	const calls = 6
	costs := []api.Cost{cost(0), cost(1), cost(0, 1), cost(0, 0, 0, 0, 1), cost(2, 1, 1, 1, 1), cost(-1)}
	kinds := len(costs) + 1
	rows := 1
	for range calls {
		rows *= kinds
	}
	for most := 1; most <= 3; most++ {
		for row := range rows {
			q, s := both(t, most, cost(3, 1, 1, 1, 2))
			for left, i := row, 0; i < calls; left, i = left/kinds, i+1 {
				if call := left % kinds; call < len(costs) {
					mustAdmit(t, "P15.2", q, costs[call], s.admit(costs[call]))
				} else {
					mustClose(t, "P15.3", q, s.close())
				}
				hold(t, q, s)
			}
			if t.Failed() {
				t.Fatalf("row %d of %d live", row, most)
			}
		}
	}
}

func TestLongRows(t *testing.T) {
	m, seen := made(15), map[api.Errno]int{}
	for range 300 {
		q, s := both(t, 1+m.below(12), m.cost(1000))
		for range 150 {
			if m.below(3) == 0 {
				mustClose(t, "P15.3", q, s.close())
			} else {
				c := m.cost([]int{3, 30, 300}[m.below(3)])
				if m.below(20) == 0 {
					c.Parts[m.below(4)] = -1
				}
				want := s.admit(c)
				seen[want]++
				mustAdmit(t, "P15.2", q, c, want)
			}
			hold(t, q, s)
			if t.Failed() {
				t.Fatalf("%v", s)
			}
		}
	}
	for _, err := range []api.Errno{api.OK, api.ErrArg, api.ErrQuotaLive, api.ErrQuotaOrch, api.ErrQuotaPart} {
		if seen[err] < 500 {
			t.Errorf("the answer %d came %d times only", err, seen[err])
		}
	}
}

func (m *made) cost(below int) api.Cost {
	return cost(m.below(below), m.below(below), m.below(below), m.below(below), m.below(below))
}
