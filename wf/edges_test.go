package wf_test

import (
	"math"

	"stileman/api"
)

const (
	top  = math.MaxUint32
	half = 1 << 31
	w    = 65536 // what the word has more when a writer has drawn a ticket
)

// word is a word with these numbers in I, O and R, each in its field.
func word(i, o, r uint32) uint32 {
	return i%256*w + o%256*256 + r%256
}

// words are words in which I is O and such in which it isn't, with no reader, one and more, those at which a field goes round, and those that have something in the bits of which none is asked.
func words() []uint32 {
	l := []uint32{half, half + 1, half + w, top - w, top - 256, top - 1, top}
	for _, turn := range []uint32{0, 7, 254, 255} {
		for _, more := range []uint32{0, 1, 2, 255} { // how many tickets aren't given back
			for _, inside := range []uint32{0, 1, 2, 255} {
				l = append(l, word(turn+more, turn, inside))
			}
		}
		l = append(l, 0x5a000000+word(turn, turn, 0), 0x01000000+word(turn, turn, 1), 0xff000000+word(turn+1, turn, 0))
	}
	return l
}

// bases are numbers at which tickets begin to count, with those at which they go round soon.
func bases() []uint32 {
	return []uint32{0, 5, 127, 254, 255}
}

// modes are the two modes.
func modes() []int {
	return []int{api.Spin, api.Parked}
}

// spins are modes that count as Spin.
func spins() []int {
	return []int{api.Spin, 0, -1, 3, 1<<32 + api.Parked, math.MinInt, math.MaxInt}
}

// counts are numbers of tasks, with the edges.
func counts() []int {
	return []int{1, 2, 3, 64}
}

// noCounts are numbers of tasks that no lock has.
func noCounts() []int {
	return []int{0, -1, -2, 65, 300, 1 << 32, 1 << 62, math.MinInt, math.MaxInt}
}

// noTasks are tasks that a lock for n tasks hasn't.
func noTasks(n int) []int {
	return []int{-1, -8, -2*n - 8, n, n + 1, 64, 1<<32 - 1, 1 << 32, math.MinInt, math.MaxInt}
}

// stages are all stages of waiting, and some that are none.
func stages() []int {
	return []int{0, 1, 2, 3, 4, 5, -1, 1<<32 + 3, math.MinInt, math.MaxInt}
}

// numbers are ints of all sizes, among them all lines and operations, and those beside them.
func numbers() []int {
	return []int{0, 1, 2, 3, 4, 5, 6, 7, 8, 9, 10, 12, 64, -1, -2, -3, 1 << 8, 1<<8 + 1, 1 << 32, 1<<32 + 1, 1<<32 + 2, 1<<32 + 3, math.MinInt, math.MaxInt}
}
