package retry

import (
	"slices"
	"testing"

	"odyssey/api"
)

// made is a row of numbers that follow a fixed rule.
type made uint64

func (m *made) below(n int) int {
	*m = *m*6364136223846793005 + 1442695040888963407
	return int(uint64(*m) >> 33 % uint64(n))
}

// slow keeps for each instance what the chapter says, and goes through all of them at each Due.
type slow struct {
	table    []int
	deadline int
	insts    [62]waiting
}

type waiting struct {
	waits, told        bool
	tries, again, late int
}

func (s *slow) after(now, ticks int) int { return min(now+ticks, 1073741824) }

func (s *slow) delay(tries int) int {
	if tries < len(s.table) {
		return s.table[tries]
	}
	return s.table[len(s.table)-1]
}

func (s *slow) begin(id, now int) api.Errno {
	if id < 1 || id > 60 || now < 0 || now > 1073741824 || s.insts[id].waits {
		return api.ErrArg
	}
	s.insts[id] = waiting{waits: true, again: s.after(now, s.delay(0)), late: s.after(now, s.deadline)}
	return api.OK
}

func (s *slow) moved(id, now int) api.Errno {
	if id < 1 || id > 60 || !s.insts[id].waits || now < 0 || now > 1073741824 {
		return api.ErrArg
	}
	s.insts[id].tries, s.insts[id].again = 0, s.after(now, s.delay(0))
	return api.OK
}

func (s *slow) stop(id int) api.Errno {
	if id < 1 || id > 60 || !s.insts[id].waits {
		return api.ErrArg
	}
	s.insts[id] = waiting{}
	return api.OK
}

func (s *slow) due(now int) ([]int, []int) {
	var again, late []int
	if now < 0 || now > 1073741824 {
		return nil, nil
	}
	for id := range s.insts {
		x := &s.insts[id]
		if x.waits && x.again <= now {
			again = append(again, id)
			x.tries++
			x.again = s.after(now, s.delay(x.tries))
		}
		if x.waits && !x.told && x.late <= now {
			late = append(late, id)
			x.told = true
		}
	}
	return again, late
}

// call does one call of four on both.
func call(t *testing.T, r *Retry, s *slow, kind, id, now int) {
	t.Helper()
	switch kind {
	case 0:
		mustBegin(t, r, id, now, s.begin(id, now))
	case 1:
		mustMove(t, r, id, now, s.moved(id, now))
	case 2:
		mustStop(t, r, id, s.stop(id))
	default:
		again, late := s.due(now)
		mustBeDue(t, "T7", r, now, again, late)
	}
}

// TestEveryShortRow: all rows of six calls out of nine, then a Due at each tick.
func TestEveryShortRow(t *testing.T) {
	calls := [][3]int{{0, 1, 0}, {0, 2, 1}, {1, 1, 2}, {1, 2, 3}, {2, 1, 0}, {2, 2, 0}, {3, 0, 2}, {3, 0, 4}, {3, 0, 1}}
	rows := 1
	for range 6 {
		rows *= len(calls)
	}
	for row := range rows {
		r, s := mustNew(t, []int{1, 3}, 4), &slow{table: []int{1, 3}, deadline: 4}
		for left, i := row, 0; i < 6; left, i = left/len(calls), i+1 {
			c := calls[left%len(calls)]
			call(t, r, s, c[0], c[1], c[2])
		}
		for now := range 7 {
			call(t, r, s, 3, 0, now)
		}
		if t.Failed() {
			t.Fatalf("row %d", row)
		}
	}
}

func TestLongRows(t *testing.T) {
	m := made(20)
	told := [2]int{}
	for range 500 {
		table, deadline := m.table(), 1+m.below(60)
		r, s := mustNew(t, table, deadline), &slow{table: table, deadline: deadline}
		now, ids := 0, 2+m.below(60)
		if m.below(5) == 0 {
			now = api.MaxTick - m.below(300)
		}
		for range 200 {
			now = m.onward(now)
			kind := m.below(8)
			if kind == 3 {
				// The time may be any: each call tells its own.
				call(t, r, s, m.below(4), m.below(ids+1), m.below(api.MaxTick+2)-1)
				continue
			}
			again, late := s.insts, s.insts
			call(t, r, s, min(kind, 3), m.below(ids+1), now)
			for id := range s.insts {
				if again[id].tries < s.insts[id].tries {
					told[0]++
				}
				if !late[id].told && s.insts[id].told {
					told[1]++
				}
			}
			if t.Failed() {
				t.Fatalf("%v, %d", table, deadline)
			}
		}
	}
	if told[0] < 1000 || told[1] < 1000 {
		t.Errorf("only %d were told again, %d late", told[0], told[1])
	}
}

func (m *made) table() []int {
	table := make([]int, 1+m.below(8))
	most := []int{3, 20, 1000}[m.below(3)]
	for i := range table {
		table[i] = 1 + m.below(most)
	}
	slices.Sort(table)
	return table
}

// onward is mostly a tick, at times some, now and then none or back.
func (m *made) onward(now int) int {
	switch m.below(12) {
	case 0:
		return now
	case 1:
		return min(now+m.below(30), api.MaxTick)
	case 2:
		return max(now-m.below(3), 0)
	}
	return min(now+1, api.MaxTick)
}

// TestApart: what is told of one instance is the same, whatever is called of others.
func TestApart(t *testing.T) {
	m := made(203)
	for range 200 {
		table, deadline := m.table(), 1+m.below(40)
		alone, among := mustNew(t, table, deadline), mustNew(t, table, deadline)
		for now := range 150 {
			for range m.below(6) {
				other := 1 + m.below(60)
				if other == 30 {
					continue
				}
				switch m.below(3) {
				case 0:
					among.Begin(other, m.below(200))
				case 1:
					among.Moved(other, m.below(200))
				case 2:
					among.Stop(other)
				}
			}
			if kind := m.below(12); kind < 3 {
				a, b := m.callOne(alone, kind, now), m.callOne(among, kind, now)
				if a != b {
					t.Fatalf("P20.3: %d alone, %d among others", a, b)
				}
			}
			again, late := alone.Due(now)
			gotAgain, gotLate := among.Due(now)
			if slices.Contains(gotAgain, 30) != slices.Contains(again, 30) || slices.Contains(gotLate, 30) != slices.Contains(late, 30) {
				t.Fatalf("P20.3: Due(%d) = %v, %v alone, %v, %v among others", now, again, late, gotAgain, gotLate)
			}
		}
	}
}

func (m *made) callOne(r *Retry, kind, now int) api.Errno {
	switch kind {
	case 0:
		return r.Begin(30, now)
	case 1:
		return r.Moved(30, now)
	}
	return r.Stop(30)
}

// TestOneKnowsNothingOfAnother: two of them share nothing.
func TestOneKnowsNothingOfAnother(t *testing.T) {
	a, b := mustNew(t, []int{2}, 5), mustNew(t, []int{3}, 9)
	mustBegin(t, a, 1, 0, api.OK)
	mustMove(t, b, 1, 0, api.ErrArg)
	mustBegin(t, b, 1, 0, api.OK)
	mustBeDue(t, "R5", a, 2, []int{1}, nil)
	mustBeDue(t, "R5", b, 2, nil, nil)
	mustStop(t, a, 1, api.OK)
	mustBeDue(t, "R5", b, 9, []int{1}, []int{1})
}
