package suite_test

import (
	"math"

	"stileman/api"
)

// What a task holds.
const (
	none  = api.HoldNone
	read  = api.HoldRead
	write = api.HoldWrite
)

// kinds are all kinds.
func kinds() []int {
	return []int{api.TaskFair, api.PhaseFair, api.PhaseQueue, api.FairQueue, api.ReadersFirst, api.WritersFirst}
}

// modes are the two modes.
func modes() []int {
	return []int{api.Spin, api.Parked}
}

// operations are all operations.
func operations() []int {
	return []int{api.RLock, api.RUnlock, api.Lock, api.Unlock, api.TryRLock, api.TryLock, api.TryUpgrade, api.Downgrade}
}

// beside are ints that aren't from low to high: those next to them, some whose lowest bits are as theirs, and the least and the greatest.
func beside(low, high int) []int {
	l := []int{low - 1, low - 2, low - 300, high + 1, high + 2, high + 300, 1 << 20, -1 << 20, math.MinInt, math.MinInt + 1, math.MaxInt - 1, math.MaxInt}
	for n := low; n <= high; n++ {
		l = append(l, n+1<<8, n+1<<16, n+1<<31, n+1<<32, n+1<<62, n+math.MinInt, n-1<<8, n-1<<32)
		if -n < low {
			l = append(l, -n)
		}
		if ^n < low {
			l = append(l, ^n)
		}
	}
	return l
}

// dice are numbers that look like chance, and are the same ones each time.
type dice uint64

// below answers the next one, from 0 to n - 1.
func (d *dice) below(n int) int {
	*d = *d*6364136223846793005 + 1442695040888963407
	return int(uint64(*d) >> 33 % uint64(n))
}
