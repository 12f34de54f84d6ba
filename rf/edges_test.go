package rf_test

import (
	"math"

	"stileman/api"
)

const (
	top  = math.MaxUint32
	half = 1 << 31
	w    = 65536 // what the word has while a writer is in
)

// words are words with and without a writer, with those at which they go round, and those at which what readers count would touch what a writer does.
func words() []uint32 {
	return []uint32{
		0, 1, 2, 3, 64, 255, w - 2, w - 1, w, w + 1, w + 2, w + 64, 2*w - 1, 2 * w, 2*w + 1, 3 * w, 3*w + 1,
		half - w, half - 1, half, half + 1, half + w, half + w + 1, top - 2*w, top - w, top - w + 1, top - w + 2, top - 1, top,
	}
}

// modes are the two modes.
func modes() []int {
	return []int{api.Spin, api.Parked}
}

// spins are modes that count as Spin.
func spins() []int {
	return []int{api.Spin, 0, -1, 3, 1<<32 + api.Parked, math.MinInt, math.MaxInt}
}

// counts are numbers of tasks, with the edges.
func counts() []int {
	return []int{1, 2, 3, 64}
}

// noCounts are numbers of tasks that no lock has.
func noCounts() []int {
	return []int{0, -1, -2, 65, 300, 1 << 32, 1 << 62, math.MinInt, math.MaxInt}
}

// noTasks are tasks that a lock for n tasks hasn't.
func noTasks(n int) []int {
	return []int{-1, -8, -2*n - 8, n, n + 1, 64, 1<<32 - 1, 1 << 32, math.MinInt, math.MaxInt}
}

// stages are all stages of waiting, and some that are none.
func stages() []int {
	return []int{0, 1, 2, 3, 4, 5, -1, 1<<32 + 3, math.MinInt, math.MaxInt}
}

// numbers are ints of all sizes, among them all lines and operations, and those beside them.
func numbers() []int {
	return []int{0, 1, 2, 3, 4, 5, 6, 7, 8, 9, 10, 12, 64, -1, -2, -3, 1 << 8, 1<<8 + 1, 1 << 32, 1<<32 + 1, 1<<32 + 2, 1<<32 + 3, math.MinInt, math.MaxInt}
}
