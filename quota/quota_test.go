package quota

import (
	"math"
	"testing"

	"odyssey/api"
)

func mustNew(t *testing.T, live, orch int, parts ...int) *Quota {
	t.Helper()
	q, err := New(live, orch, four(parts...))
	if q == nil || err != api.OK {
		t.Fatalf("P15.1: New(%d, %d, %v) = %v, %d, want a quota", live, orch, parts, q, err)
	}
	return q
}

func mustNotNew(t *testing.T, live, orch int, parts ...int) {
	t.Helper()
	if q, err := New(live, orch, four(parts...)); q != nil || err != api.ErrArg {
		t.Errorf("P15.1: New(%d, %d, %v) = %v, %d, want nil, %d", live, orch, parts, q, err, api.ErrArg)
	}
}

func mustAdmit(t *testing.T, what string, q *Quota, c api.Cost, want api.Errno) {
	t.Helper()
	if err := q.Admit(c); err != want {
		t.Errorf("%s: Admit(%v) = %d, want %d", what, c, err, want)
	}
}

func mustClose(t *testing.T, what string, q *Quota, want api.Errno) {
	t.Helper()
	if err := q.Close(); err != want {
		t.Errorf("%s: Close = %d, want %d", what, err, want)
	}
}

// mustLeft asks twice: Left changes nothing.
func mustLeft(t *testing.T, what string, q *Quota, live int, left api.Cost) {
	t.Helper()
	for range 2 {
		if n, c := q.Left(); n != live || c != left {
			t.Errorf("%s: Left = %d, %v, want %d, %v", what, n, c, live, left)
		}
	}
}

// four are the numbers given, and 0 for those that lack.
func four(counts ...int) [api.Parts]int {
	var parts [api.Parts]int
	copy(parts[:], counts)
	return parts
}

func cost(orch int, parts ...int) api.Cost {
	return api.Cost{Orch: orch, Parts: four(parts...)}
}

// at is a cost of one number at one node, and of another at all others.
func at(node, there, elsewhere int) api.Cost {
	c := cost(elsewhere, elsewhere, elsewhere, elsewhere, elsewhere)
	if node == api.Orch {
		c.Orch = there
	} else {
		c.Parts[node] = there
	}
	return c
}

func TestExample(t *testing.T) {
	q := mustNew(t, 1, 10, 5, 5, 0, 0)
	mustAdmit(t, "P15.2", q, cost(4, 2, 0, 0, 0), api.OK)
	mustLeft(t, "P15.4", q, 1, cost(6, 3, 5, 0, 0))
	mustAdmit(t, "P15.2", q, cost(0), api.ErrQuotaLive)
	mustClose(t, "P15.3", q, api.OK)
	mustAdmit(t, "P15.2", q, cost(7), api.ErrQuotaOrch)
	mustAdmit(t, "P15.2", q, cost(6, 0, 0, 1, 0), api.ErrQuotaPart)
	mustAdmit(t, "P15.2", q, cost(-1), api.ErrArg)
	mustClose(t, "P15.3", q, api.ErrArg)
	mustLeft(t, "P15.4", q, 0, cost(6, 3, 5, 0, 0))
}

func TestNewLive(t *testing.T) {
	for live := 1; live <= 12; live++ {
		mustLeft(t, "P15.1", mustNew(t, live, 7, 1, 2, 3, 4), 0, cost(7, 1, 2, 3, 4))
	}
	for _, live := range []int{math.MinInt, -1 << 32, -12, -1, 0, 13, 14, 24, 1<<32 + 1, math.MaxInt} {
		mustNotNew(t, live, 7, 1, 2, 3, 4)
	}
}

func TestNewBudgets(t *testing.T) {
	for node := range api.Nodes {
		for _, count := range []int{0, 1, 2, 99999, 100000} {
			for _, other := range []int{0, 5, 100000} {
				c := at(node, count, other)
				mustLeft(t, "P15.1", mustNew(t, 3, c.Orch, c.Parts[:]...), 0, c)
			}
		}
		for _, count := range []int{math.MinInt, -1 << 32, -100000, -1, 100001, 200000, 1 << 32, math.MaxInt} {
			for _, other := range []int{0, 5, 100000} {
				c := at(node, count, other)
				mustNotNew(t, 3, c.Orch, c.Parts[:]...)
			}
		}
	}
}

func TestAsManyAsMayBeLive(t *testing.T) {
	for most := 1; most <= 12; most++ {
		q := mustNew(t, most, 100, 100)
		for live := range most {
			mustLeft(t, "P15.4", q, live, cost(100-live, 100))
			mustAdmit(t, "P15.2", q, cost(1), api.OK)
		}
		for range 2 {
			mustAdmit(t, "P15.2", q, cost(1), api.ErrQuotaLive)
			mustAdmit(t, "P15.2", q, cost(0), api.ErrQuotaLive)
		}
		mustLeft(t, "P15.5", q, most, cost(100-most, 100))
		mustClose(t, "P15.3", q, api.OK)
		mustAdmit(t, "P15.2", q, cost(1), api.OK)
		mustAdmit(t, "P15.2", q, cost(1), api.ErrQuotaLive)
		for live := most; live > 0; live-- {
			mustLeft(t, "P15.4", q, live, cost(99-most, 100))
			mustClose(t, "P15.3", q, api.OK)
		}
		for range 2 {
			mustClose(t, "P15.3", q, api.ErrArg)
			mustLeft(t, "P15.3", q, 0, cost(99-most, 100))
		}
	}
}

// TestToTheLastUnit: at each node all that is left may be asked for, and not one more.
func TestToTheLastUnit(t *testing.T) {
	for node := range api.Nodes {
		want := api.ErrQuotaPart
		if node == api.Orch {
			want = api.ErrQuotaOrch
		}
		for _, budget := range []int{0, 1, 2, 50, 99999, 100000} {
			given := at(node, budget, 9)
			q := mustNew(t, 12, given.Orch, given.Parts[:]...)
			for _, more := range []int{1, 2, 100000, 1 << 32, math.MaxInt - budget} {
				mustAdmit(t, "P15.2", q, at(node, budget+more, 0), want)
				mustLeft(t, "P15.5", q, 0, given)
			}
			mustAdmit(t, "P15.2", q, at(node, budget, 0), api.OK)
			mustLeft(t, "P15.4", q, 1, at(node, 0, 9))
			mustAdmit(t, "P15.2", q, at(node, 1, 0), want)
			mustAdmit(t, "P15.2", q, at(node, 0, 9), api.OK)
			mustLeft(t, "P15.4", q, 2, cost(0))
			mustAdmit(t, "P15.2", q, cost(0), api.OK)
			mustLeft(t, "P15.4", q, 3, cost(0))
		}
	}
}

func TestBelowZero(t *testing.T) {
	q := mustNew(t, 1, 5, 5, 5, 5, 5)
	for range 2 {
		n, left := q.Left()
		for node := range api.Nodes {
			for _, count := range []int{math.MinInt, -1 << 32, -100000, -1} {
				// Of errors beside it this one is the first.
				for _, other := range []int{0, 1, 6, math.MaxInt} {
					mustAdmit(t, "P15.2", q, at(node, count, other), api.ErrArg)
					mustLeft(t, "P15.5", q, n, left)
				}
			}
		}
		q.Admit(cost(1, 1, 1, 1, 1))
	}
}

func TestFirstOfSeveralErrors(t *testing.T) {
	q := mustNew(t, 1, 5, 5, 5, 5, 5)
	mustAdmit(t, "P15.2", q, cost(6, 6, 6, 6, 6), api.ErrQuotaOrch)
	for part := range api.Parts {
		c := at(part, 6, 0)
		mustAdmit(t, "P15.2", q, c, api.ErrQuotaPart)
		c.Orch = 6
		mustAdmit(t, "R2", q, c, api.ErrQuotaOrch)
	}
	mustAdmit(t, "P15.2", q, cost(5), api.OK)
	for node := range api.Nodes {
		mustAdmit(t, "R2", q, at(node, 6, 0), api.ErrQuotaLive)
	}
	mustAdmit(t, "R2", q, cost(6, 6, 6, 6, 6), api.ErrQuotaLive)
	mustAdmit(t, "R2", q, cost(6, 6, 6, 6, -6), api.ErrArg)
	mustLeft(t, "P15.5", q, 1, cost(0, 5, 5, 5, 5))
	mustClose(t, "P15.3", q, api.OK)
	mustAdmit(t, "R2", q, cost(1, 6, 0, 0, 0), api.ErrQuotaOrch)
	mustAdmit(t, "R2", q, cost(0, 0, 0, 0, 6), api.ErrQuotaPart)
}

func TestNothingComesBack(t *testing.T) {
	q := mustNew(t, 2, 3, 1, 2, 3, 4)
	for left := 3; left > 0; left-- {
		mustAdmit(t, "P15.2", q, cost(1), api.OK)
		mustClose(t, "P15.3", q, api.OK)
		mustLeft(t, "P15.3", q, 0, cost(left-1, 1, 2, 3, 4))
	}
	for range 3 {
		mustAdmit(t, "P15.3", q, cost(1), api.ErrQuotaOrch)
		mustClose(t, "P15.3", q, api.ErrArg)
		mustLeft(t, "P15.3", q, 0, cost(0, 1, 2, 3, 4))
	}
}

// TestEachItsOwn: the five budgets of one quota are not mistaken for one another.
func TestEachItsOwn(t *testing.T) {
	q := mustNew(t, 12, 100, 200, 300, 400, 500)
	mustAdmit(t, "P15.2", q, cost(1, 20, 3, 40, 5), api.OK)
	mustLeft(t, "P15.4", q, 1, cost(99, 180, 297, 360, 495))
	mustAdmit(t, "P15.2", q, cost(99, 180, 297, 360, 495), api.OK)
	mustLeft(t, "P15.4", q, 2, cost(0))
}

// TestObjects: R5: quotas know nothing of one another, nor of what they were given.
func TestObjects(t *testing.T) {
	parts := four(5, 5, 5, 5)
	a, _ := New(1, 5, parts)
	b, _ := New(2, 5, parts)
	parts[0] = 0
	mustAdmit(t, "P15.2", a, cost(1, 2, 3, 4, 5), api.OK)
	mustLeft(t, "R5", b, 0, cost(5, 5, 5, 5, 5))
	mustClose(t, "R5", b, api.ErrArg)
	mustAdmit(t, "P15.2", b, cost(5), api.OK)
	mustAdmit(t, "P15.2", b, cost(0, 1), api.OK)
	mustClose(t, "R5", b, api.OK)
	_, left := b.Left()
	left.Parts[0], left.Orch = 99, 99
	mustLeft(t, "R5", b, 1, cost(0, 4, 5, 5, 5))
	mustLeft(t, "R5", a, 1, cost(4, 3, 2, 1, 0))
}
