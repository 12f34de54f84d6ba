package world_test

import (
	"math"

	"stileman/api"
)

// What a task holds.
const (
	none  = api.HoldNone
	read  = api.HoldRead
	write = api.HoldWrite
)

const top = math.MaxUint32

// kinds are all kinds.
func kinds() []int {
	return []int{api.TaskFair, api.PhaseFair, api.PhaseQueue, api.FairQueue, api.ReadersFirst, api.WritersFirst}
}

// modes are the two modes.
func modes() []int {
	return []int{api.Spin, api.Parked}
}

// operations are all operations.
func operations() []int {
	return []int{api.RLock, api.RUnlock, api.Lock, api.Unlock, api.TryRLock, api.TryLock, api.TryUpgrade, api.Downgrade}
}

// noOperations are numbers that are no operation.
func noOperations() []int {
	return append(beside(1, 8), api.Rest, 9, -1)
}

// bases are numbers at which tickets begin to count, with those at which words, and fields of them, go round soon.
func bases() []uint32 {
	return []uint32{0, 1, 5, 127, 254, 255, 1<<24 - 1, 1<<31 - 1, 1 << 31, top - 1, top}
}

// counts are numbers of tasks, with the edges.
func counts() []int {
	return []int{1, 2, 3, 63, 64}
}

// noTasks are tasks that a world of n tasks hasn't.
func noTasks(n int) []int {
	return append(beside(0, n-1), -1, n, n+1, 64, 65, 8+n, 1<<32, 1<<32+1)
}

// beside are ints that aren't from low to high: those next to them, some whose lowest bits are as theirs, and the least and the greatest.
func beside(low, high int) []int {
	l := []int{low - 1, low - 2, low - 300, high + 1, high + 2, high + 300, 1 << 20, -1 << 20, math.MinInt, math.MinInt + 1, math.MaxInt - 1, math.MaxInt}
	for _, n := range []int{low, low + 1, high} {
		l = append(l, n+1<<8, n+1<<16, n+1<<31, n+1<<32, n+1<<62, n+math.MinInt, n-1<<8, n-1<<32)
		if -n < low {
			l = append(l, -n)
		}
		if ^n < low {
			l = append(l, ^n)
		}
	}
	return l
}

// dice are numbers that look like chance, and are the same ones each time.
type dice uint64

// below answers the next one, from 0 to n - 1.
func (d *dice) below(n int) int {
	*d = *d*6364136223846793005 + 1442695040888963407
	return int(uint64(*d) >> 33 % uint64(n))
}

// choices are the operations that a task may begin that holds that.
func choices(hold int) []int {
	return [][]int{
		none:  {api.RLock, api.Lock, api.TryRLock, api.TryLock},
		read:  {api.RUnlock, api.TryUpgrade},
		write: {api.Unlock, api.Downgrade},
	}[hold]
}

// leaving is the operation by which one that holds that gives it up; Rest: it holds nothing.
func leaving(hold int) int {
	return []int{none: api.Rest, read: api.RUnlock, write: api.Unlock}[hold]
}
