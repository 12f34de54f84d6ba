package suite_test

import (
	"slices"
	"testing"

	"stileman/api"
)

// P17.1, P17.2: two tasks that rlock read both, of every kind.
func TestTwoRead(t *testing.T) {
	gathered(t, 2, func(x *crowd) {
		x.ends(0, api.RLock, api.RetTrue)
		x.ends(1, api.RLock, api.RetTrue)
		x.holds(read, read)
	})
}

// P17.1, P17.2: who wants to read while one writes waits, until that one unlocks.
func TestReaderWaits(t *testing.T) {
	gathered(t, 2, func(x *crowd) {
		x.ends(0, api.Lock, api.RetTrue)
		x.ends(1, api.RLock, api.RetNone)
		x.holds(write, none)
		x.begin(0, api.Unlock)
		x.holds(none, none)
		if !x.goOn(0) || !x.goOn(1) {
			t.Errorf("the kind %d: %+v", x.kind, x)
		}
		x.holds(none, read)
	})
}

// P17.1: while one reads and a writer waits, a second reader gets in at once of the kind in which readers go first, and of no other one.
func TestSecondReader(t *testing.T) {
	gathered(t, 3, func(x *crowd) {
		x.ends(0, api.RLock, api.RetTrue)
		x.ends(1, api.Lock, api.RetNone)
		ret := api.RetNone
		if x.kind == api.ReadersFirst {
			ret = api.RetTrue
		}
		x.ends(2, api.RLock, ret)
		x.leave()
	})
}

// P17.1: of a reader and a second writer that wait while one writes, it is the kind that tells who gets in first.
func TestWhoIsNext(t *testing.T) {
	gathered(t, 3, func(x *crowd) {
		x.ends(0, api.Lock, api.RetTrue)
		x.ends(1, api.Lock, api.RetNone)
		x.ends(2, api.RLock, api.RetNone)
		x.ends(0, api.Unlock, api.RetTrue)
		// Each goes on as far as it gets, whoever goes on first.
		for range 2 {
			x.goOn(1)
			x.goOn(2)
		}
		switch x.kind {
		case api.PhaseFair, api.PhaseQueue:
			x.holds(none, none, read)
		case api.TaskFair, api.FairQueue, api.WritersFirst:
			x.holds(none, write, none)
		default:
			// The reader is counted from its request on.
			x.holds(none, none, read)
		}
		x.leave()
	})
}

// P17.2: a reader alone gets up; beside another one it doesn't, and still reads.
func TestUp(t *testing.T) {
	gathered(t, 2, func(x *crowd) {
		x.ends(0, api.RLock, api.RetTrue)
		x.ends(0, api.TryUpgrade, api.RetTrue)
		x.holds(write, none)
		x.ends(0, api.Downgrade, api.RetTrue)
		x.ends(1, api.RLock, api.RetTrue)
		x.ends(0, api.TryUpgrade, api.RetFalse)
		x.holds(read, read)
		x.leave()
	})
}

// P17.2: a writer that goes down reads from the beginning on, and readers that waited read with it.
func TestDown(t *testing.T) {
	gathered(t, 2, func(x *crowd) {
		x.ends(0, api.Lock, api.RetTrue)
		x.ends(1, api.RLock, api.RetNone)
		x.begin(0, api.Downgrade)
		x.holds(read, none)
		if !x.goOn(0) || !x.goOn(1) {
			t.Errorf("the kind %d: %+v", x.kind, x)
		}
		x.holds(read, read)
	})
}

// P17.2: tries are refused while one writes, and that of a writer while one reads; who is refused holds what it held.
func TestTries(t *testing.T) {
	gathered(t, 2, func(x *crowd) {
		x.ends(0, api.RLock, api.RetTrue)
		x.ends(1, api.TryLock, api.RetFalse)
		x.holds(read, none)
		x.ends(1, api.TryRLock, api.RetTrue)
		x.holds(read, read)
		x.leave()
		x.ends(0, api.TryLock, api.RetTrue)
		x.ends(1, api.TryRLock, api.RetFalse)
		x.ends(1, api.TryLock, api.RetFalse)
		x.holds(write, none)
	})
}

// P17.2: what a task may not begin, by what it holds, isn't begun, of any kind.
func TestMisuse(t *testing.T) {
	gathered(t, 1, func(x *crowd) {
		may := map[int][]int{
			none:  {api.RLock, api.Lock, api.TryRLock, api.TryLock},
			read:  {api.RUnlock, api.TryUpgrade},
			write: {api.Unlock, api.Downgrade},
		}
		for _, op := range []int{api.RLock, api.TryUpgrade, api.Unlock, api.Lock, api.Downgrade, api.RUnlock} {
			for _, other := range append(operations(), api.Rest, 9) {
				if !slices.Contains(may[x.hold[0]], other) && x.begin(0, other) {
					t.Fatalf("the kind %d: one that holds %d begins %d", x.kind, x.hold[0], other)
				}
			}
			x.ends(0, op, api.RetTrue)
		}
		x.holds(none)
	})
}
