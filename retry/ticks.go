package retry

import "odyssey/api"

func tableMayBe(table []int) bool {
	if len(table) < 1 || len(table) > api.MaxBack {
		return false
	}
	// The first number has none ahead of it, but the least that there may be.
	least := 1
	for _, ticks := range table {
		if ticks < least || ticks > api.MaxDelay {
			return false
		}
		least = ticks
	}
	return true
}

// delayOf is asked only of a table that may be, and of tries from 0 on.
func delayOf(table []int, tries int) int {
	return table[min(tries, len(table)-1)]
}

// addTicks stays within what a wheel takes.
func addTicks(now, ticks int) int {
	if ticks > api.MaxTick-now {
		return api.MaxTick
	}
	return now + ticks
}

func isTick(now int) bool {
	return now >= 0 && now <= api.MaxTick
}
