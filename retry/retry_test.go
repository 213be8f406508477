package retry

import (
	"math"
	"slices"
	"testing"

	"odyssey/api"
)

func mustNew(t *testing.T, table []int, deadline int) *Retry {
	t.Helper()
	r, err := New(table, deadline)
	if err != api.OK || r == nil {
		t.Fatalf("T2: New(%v, %d): %d", table, deadline, err)
	}
	return r
}

func mustBegin(t *testing.T, r *Retry, id, now int, want api.Errno) {
	t.Helper()
	if err := r.Begin(id, now); err != want {
		t.Errorf("T4: Begin(%d, %d) = %d, want %d", id, now, err, want)
	}
}

func mustMove(t *testing.T, r *Retry, id, now int, want api.Errno) {
	t.Helper()
	if err := r.Moved(id, now); err != want {
		t.Errorf("T5: Moved(%d, %d) = %d, want %d", id, now, err, want)
	}
}

func mustStop(t *testing.T, r *Retry, id int, want api.Errno) {
	t.Helper()
	if err := r.Stop(id); err != want {
		t.Errorf("T6: Stop(%d) = %d, want %d", id, err, want)
	}
}

func mustBeDue(t *testing.T, what string, r *Retry, now int, again, late []int) {
	t.Helper()
	gotAgain, gotLate := r.Due(now)
	if !slices.Equal(gotAgain, again) || !slices.Equal(gotLate, late) {
		t.Errorf("%s: Due(%d) = %v, %v, want %v, %v", what, now, gotAgain, gotLate, again, late)
	}
}

func wrongTables() [][]int {
	return [][]int{
		nil, {}, {0}, {-1}, {1001}, {math.MaxInt}, {math.MinInt}, {5, 3}, {1, 0}, {1, 2, 1}, {1000, 999}, {1, 1001}, {1, 2, 3, 4, 5, 6, 7, 1001}, {0, 1}, {-1, 1},
		{1, 1, 1, 1, 1, 1, 1, 1, 1}, {1, 2, 3, 4, 5, 6, 7, 8, 9}, make([]int, 9), slices.Repeat([]int{1}, 100000),
	}
}

func rightTables() [][]int {
	return [][]int{{1}, {1000}, {1, 1}, {1, 2}, {1, 1000}, {1000, 1000}, {3, 5, 5}, {1, 2, 3, 4, 5, 6, 7, 8}, {1, 1, 1, 1, 1, 1, 1, 1}, {1, 1, 1, 1, 1, 1, 1, 1000}}
}

func TestExamples(t *testing.T) {
	r := mustNew(t, []int{2, 4}, 10)
	mustBegin(t, r, 1, 0, api.OK)
	mustBegin(t, r, 2, 1, api.OK)
	mustBeDue(t, "T7", r, 2, []int{1}, nil)
	mustBeDue(t, "T7", r, 3, []int{2}, nil)
	mustBeDue(t, "T7", r, 5, nil, nil)
	mustBeDue(t, "T7", r, 6, []int{1}, nil)
	mustMove(t, r, 1, 6, api.OK)
	mustBeDue(t, "T7", r, 8, []int{1, 2}, nil)
	mustBeDue(t, "T7", r, 10, nil, []int{1})
	mustBeDue(t, "T7", r, 11, nil, []int{2})
	mustStop(t, r, 1, api.OK)
	mustStop(t, r, 1, api.ErrArg)
	mustBeDue(t, "T7", r, 1000, []int{2}, nil)
	mustBegin(t, r, 0, 0, api.ErrArg)
	mustBegin(t, r, 61, 0, api.ErrArg)
	mustBegin(t, r, 3, -1, api.ErrArg)
}

func TestTables(t *testing.T) {
	for _, table := range rightTables() {
		mustNew(t, table, 1)
		for tries := range 20 {
			want := table[min(tries, len(table)-1)]
			if ticks, err := Delay(table, tries); ticks != want || err != api.OK {
				t.Errorf("T3: Delay(%v, %d) = %d, %d, want %d", table, tries, ticks, err, want)
			}
		}
		for _, tries := range []int{math.MaxInt, 1 << 32, 1 << 31} {
			if ticks, err := Delay(table, tries); ticks != table[len(table)-1] || err != api.OK {
				t.Errorf("T3: Delay(%v, %d) = %d, %d", table, tries, ticks, err)
			}
		}
		for _, tries := range []int{math.MinInt, -1 << 32, -1} {
			if ticks, err := Delay(table, tries); ticks != 0 || err != api.ErrArg {
				t.Errorf("T3: Delay(%v, %d) = %d, %d", table, tries, ticks, err)
			}
		}
	}
	for _, table := range wrongTables() {
		for _, tries := range []int{math.MinInt, -1, 0, 1, math.MaxInt} {
			if ticks, err := Delay(table, tries); ticks != 0 || err != api.ErrRetryTable {
				t.Errorf("T1: Delay by %d of a wrong table = %d, %d", tries, ticks, err)
			}
		}
	}
}

// TestEverySmallTable: all tables of up to three numbers, with edges among them.
func TestEverySmallTable(t *testing.T) {
	numbers := []int{-1, 0, 1, 2, 999, 1000, 1001}
	var see func(table []int)
	see = func(table []int) {
		want := api.OK
		if len(table) == 0 || !slices.IsSorted(table) || table[0] < 1 || table[len(table)-1] > 1000 {
			want = api.ErrRetryTable
		}
		if _, err := New(table, 7); err != want {
			t.Errorf("T1: New(%v, 7): %d, want %d", table, err, want)
		}
		if _, err := Delay(table, 0); err != want {
			t.Errorf("T1: Delay(%v, 0): %d, want %d", table, err, want)
		}
		if len(table) < 3 {
			for _, n := range numbers {
				see(append(slices.Clone(table), n))
			}
		}
	}
	see(nil)
}

func TestNew(t *testing.T) {
	wrong := []int{math.MinInt, -1, 0, api.MaxTick + 1, 1 << 32, 1<<32 + 1, math.MaxInt}
	for _, table := range rightTables() {
		for _, deadline := range []int{1, 2, 1000, api.MaxTick - 1, api.MaxTick} {
			r := mustNew(t, table, deadline)
			mustBeDue(t, "T2", r, api.MaxTick, nil, nil)
			for id := -1; id <= 62; id++ {
				mustStop(t, r, id, api.ErrArg)
				mustMove(t, r, id, 0, api.ErrArg)
			}
		}
		for _, deadline := range wrong {
			if r, err := New(table, deadline); r != nil || err != api.ErrArg {
				t.Errorf("T2: New(%v, %d): %d", table, deadline, err)
			}
		}
	}
	for _, table := range wrongTables() {
		for _, deadline := range append(wrong, 1, api.MaxTick) {
			if r, err := New(table, deadline); r != nil || err != api.ErrRetryTable {
				t.Errorf("T2: New of a wrong table, %d: %d", deadline, err)
			}
		}
	}
}

func TestTableIsCopied(t *testing.T) {
	table := []int{2, 4}
	r := mustNew(t, table, 100)
	mustBegin(t, r, 1, 0, api.OK)
	table[0], table[1] = 9, 0
	mustBeDue(t, "R5", r, 2, []int{1}, nil)
	mustBeDue(t, "R5", r, 6, []int{1}, nil)
	mustBegin(t, r, 2, 6, api.OK)
	mustBeDue(t, "R5", r, 8, []int{2}, nil)
	if table[0] != 9 || table[1] != 0 {
		t.Errorf("R5: the table is %v", table)
	}
}

func TestAnswersAreNew(t *testing.T) {
	r := mustNew(t, []int{1}, 1)
	for id := 1; id <= 4; id++ {
		mustBegin(t, r, id, 0, api.OK)
	}
	again, late := r.Due(1)
	for _, list := range [][]int{again, late} {
		for i := range list[:cap(list)] {
			list[:cap(list)][i] = 50
		}
	}
	mustBeDue(t, "R5", r, 2, []int{1, 2, 3, 4}, nil)
	again, late = r.Due(3)
	if again = append(again, 9); len(late) != 0 || !slices.Equal(again[:4], []int{1, 2, 3, 4}) {
		t.Errorf("R5: %v, %v", again, late)
	}
}

func TestWrongNumbers(t *testing.T) {
	wrongIds := []int{math.MinInt, -1, 0, 61, 62, 1 << 32, 1<<32 + 1, math.MaxInt}
	wrongTimes := []int{math.MinInt, -1 << 32, -1, api.MaxTick + 1, 1 << 31, 1 << 32, math.MaxInt}
	r := mustNew(t, []int{3, 5}, 7)
	mustBegin(t, r, 1, 0, api.OK)
	for _, id := range wrongIds {
		for _, now := range append(wrongTimes, 0, api.MaxTick) {
			mustBegin(t, r, id, now, api.ErrArg)
			mustMove(t, r, id, now, api.ErrArg)
		}
		mustStop(t, r, id, api.ErrArg)
	}
	for _, now := range wrongTimes {
		mustBegin(t, r, 2, now, api.ErrArg)
		mustMove(t, r, 1, now, api.ErrArg)
		mustMove(t, r, 2, now, api.ErrArg)
		mustBeDue(t, "T7", r, now, nil, nil)
	}
	mustBegin(t, r, 1, 2, api.ErrArg)
	mustMove(t, r, 2, 2, api.ErrArg)
	// None of these changed anything.
	mustBeDue(t, "R3", r, 2, nil, nil)
	mustBeDue(t, "R3", r, 3, []int{1}, nil)
	mustBeDue(t, "R3", r, 7, nil, []int{1})
	mustBeDue(t, "R3", r, 8, []int{1}, nil)
	mustStop(t, r, 2, api.ErrArg)
	mustStop(t, r, 1, api.OK)
}

// TestRising: by their ids, not by their times.
func TestRising(t *testing.T) {
	r := mustNew(t, []int{1}, 1)
	for id := 60; id >= 1; id-- {
		mustBegin(t, r, id, 60-id, api.OK)
	}
	var all []int
	for id := 1; id <= 60; id++ {
		all = append(all, id)
	}
	mustBeDue(t, "T7", r, 60, all, all)
	mustBeDue(t, "T7", r, 60, nil, nil)
	mustBeDue(t, "T7", r, 61, all, nil)
}

func TestLastTick(t *testing.T) {
	r := mustNew(t, []int{1000}, api.MaxTick)
	mustBegin(t, r, 60, api.MaxTick, api.OK)
	mustBegin(t, r, 1, api.MaxTick-1000, api.OK)
	mustBegin(t, r, 2, api.MaxTick-999, api.OK)
	mustBegin(t, r, 3, 0, api.OK)
	mustBeDue(t, "T7", r, api.MaxTick-1, []int{3}, nil)
	// Each again is the last tick now, and stays there: it is told at each Due.
	mustBeDue(t, "T7", r, api.MaxTick, []int{1, 2, 3, 60}, []int{1, 2, 3, 60})
	mustBeDue(t, "T7", r, api.MaxTick, []int{1, 2, 3, 60}, nil)
	mustMove(t, r, 2, api.MaxTick, api.OK)
	mustBeDue(t, "T7", r, api.MaxTick, []int{1, 2, 3, 60}, nil)
	mustMove(t, r, 2, 5, api.OK)
	mustBeDue(t, "T7", r, 1005, []int{2}, nil)
	mustStop(t, r, 60, api.OK)
	mustBeDue(t, "T7", r, api.MaxTick, []int{1, 2, 3}, nil)
}

func TestStoppedAndBegunAnew(t *testing.T) {
	r := mustNew(t, []int{2, 50}, 3)
	mustBegin(t, r, 4, 0, api.OK)
	mustBeDue(t, "T7", r, 3, []int{4}, []int{4})
	mustStop(t, r, 4, api.OK)
	mustBeDue(t, "T6", r, 60, nil, nil)
	mustMove(t, r, 4, 60, api.ErrArg)
	// Anew it has 0 tries, and was not told as late.
	mustBegin(t, r, 4, 60, api.OK)
	mustBeDue(t, "T4", r, 62, []int{4}, nil)
	mustBeDue(t, "T4", r, 63, nil, []int{4})
	mustStop(t, r, 4, api.OK)
	mustBegin(t, r, 4, 63, api.OK)
	mustStop(t, r, 4, api.OK)
	mustBeDue(t, "T6", r, api.MaxTick, nil, nil)
}

// TestAgain: asked at every tick, it is told at the sums of the table's delays, from Begin or Moved on.
func TestAgain(t *testing.T) {
	for _, table := range [][]int{{1}, {3}, {1, 2, 4}, {2, 2, 5}, {1, 2, 3, 4, 5, 6, 7, 8}, {40}} {
		for _, moved := range []int{0, 1, 7, 33} {
			r := mustNew(t, table, 1000)
			mustBegin(t, r, 9, 5, api.OK)
			from := 5
			if moved > 0 {
				mustBeDue(t, "P20.1", r, 5, nil, nil)
				for now := 6; now <= 5+moved; now++ {
					r.Due(now)
				}
				mustMove(t, r, 9, 5+moved, api.OK)
				from = 5 + moved
			}
			sum, tries := from, 0
			for now := from + 1; now <= from+200; now++ {
				var want []int
				if ticks, _ := Delay(table, tries); now == sum+ticks {
					want, sum, tries = []int{9}, now, tries+1
				}
				mustBeDue(t, "P20.1", r, now, want, nil)
			}
			if tries < 5 {
				t.Errorf("P20.1: %v: only %d tries", table, tries)
			}
		}
	}
}

// TestLate: whatever moves, it is told as late once, by the first Due at its deadline or behind it.
func TestLate(t *testing.T) {
	for _, deadline := range []int{1, 2, 10, 50} {
		for _, step := range []int{1, 3, 7} {
			for _, moves := range []int{0, 1, 4} {
				r := mustNew(t, []int{2, 3}, deadline)
				mustBegin(t, r, 30, 11, api.OK)
				told := 0
				for now := 11; now < 120; now += step {
					if moves > 0 && now%moves == 0 {
						mustMove(t, r, 30, now, api.OK)
					}
					_, late := r.Due(now)
					first := now >= 11+deadline && now-step < 11+deadline
					if first != (len(late) == 1) || len(late) > 1 {
						t.Errorf("P20.2: deadline %d: Due(%d) tells %v as late", deadline, now, late)
					}
					told += len(late)
				}
				if told != 1 {
					t.Errorf("P20.2: deadline %d: told as late %d times", deadline, told)
				}
			}
		}
	}
}
