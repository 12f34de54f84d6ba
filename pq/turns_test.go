package pq_test

import (
	"testing"

	"stileman/api"
)

const (
	reads      = api.HoldRead
	writes     = api.HoldWrite
	awaitRead  = -api.HoldRead
	awaitWrite = -api.HoldWrite
)

// P14.2: readers that come one behind the other read together, and a writer behind them waits for the last of them, whoever leaves first.
func TestReadersTogether(t *testing.T) {
	gathered(t, 4, func(x *crowd) {
		x.does(2, api.RLock, yes)
		x.does(0, api.TryRLock, yes)
		x.does(1, api.RLock, yes)
		x.holds(reads, reads, reads, 0)
		x.calls(api.Lock, 3)
		x.does(0, api.RUnlock, yes)
		x.waits(3)
		x.does(2, api.RUnlock, yes)
		x.waits(3)
		x.holds(0, reads, 0, awaitWrite)
		x.does(1, api.RUnlock, yes)
		x.ends(3, yes)
		x.holds(0, 0, 0, writes)
		x.does(3, api.Unlock, yes)
		x.free(3, 1)
	})
}

// P14.2: readers that come while a writer is present read between it and the next writer, whether that one is present by then or not; readers that come behind its presence wait for it.
func TestByTurns(t *testing.T) {
	for _, early := range []bool{false, true} {
		gathered(t, 5, func(x *crowd) {
			x.does(0, api.Lock, yes)
			x.calls(api.Lock, 1)
			x.calls(api.RLock, 2, 3)
			x.waits(3, 2, 1)
			x.holds(writes, awaitWrite, awaitRead, awaitRead, 0)
			x.does(0, api.Unlock, yes)
			if early {
				x.until(1, 7)
				x.waits(1)
			}
			x.ends(3, yes)
			x.waits(1)
			x.calls(api.RLock, 4)
			x.waits(1)
			x.ends(2, yes)
			x.waits(4, 1)
			x.holds(0, awaitWrite, reads, reads, awaitRead)
			x.does(2, api.RUnlock, yes)
			x.waits(4, 1)
			x.does(3, api.RUnlock, yes)
			x.waits(4)
			x.ends(1, yes)
			x.waits(4)
			x.holds(0, writes, 0, 0, awaitRead)
			x.does(1, api.Unlock, yes)
			x.ends(4, yes)
			x.does(4, api.RUnlock, yes)
			x.free(3, 2)
		})
	}
}

// P14.2: a reader reads at once as long as a writer is no more than first in the queue, and waits from the step on by which that is present.
func TestPresence(t *testing.T) {
	for _, n := range []int{0, 1, 2, 5, 6, 7} {
		gathered(t, 3, func(x *crowd) {
			x.does(0, api.RLock, yes)
			x.begin(1, api.Lock)
			x.until(1, n)
			if n < 7 {
				x.does(2, api.RLock, yes)
				x.waits(1)
				x.holds(reads, awaitWrite, reads)
				x.does(2, api.RUnlock, yes)
				x.waits(1)
			} else {
				x.calls(api.RLock, 2)
				x.waits(1)
				x.holds(reads, awaitWrite, awaitRead)
			}
			x.does(0, api.RUnlock, yes)
			x.ends(1, yes)
			x.does(1, api.Unlock, yes)
			if n == 7 {
				x.ends(2, yes)
				x.does(2, api.RUnlock, yes)
			}
			x.free(2, 1)
		})
	}
}

// P14.1: a writer that leaves lets the readers behind it in by its line 1, and the next writer by the last one, with which it gives the queue on.
func TestLeave(t *testing.T) {
	for _, op := range []int{api.Unlock, api.Downgrade} {
		for _, n := range []int{0, 1, 2, 3, 6} {
			gathered(t, 3, func(x *crowd) {
				x.does(0, api.Lock, yes)
				x.calls(api.RLock, 1)
				x.calls(api.Lock, 2)
				x.begin(0, op)
				x.until(0, n)
				x.waits(2)
				if n < 2 {
					x.waits(1)
					x.holds(writes, awaitRead, awaitWrite)
				} else {
					x.ends(1, yes)
					x.does(1, api.RUnlock, yes)
					x.does(1, api.RLock, yes)
				}
				x.waits(2)
				x.ends(0, yes)
				if op == api.Downgrade {
					x.waits(2)
					x.does(0, api.RUnlock, yes)
				}
				if n < 2 {
					x.ends(1, yes)
				}
				x.waits(2)
				x.does(1, api.RUnlock, yes)
				x.ends(2, yes)
				x.does(2, api.Unlock, yes)
				x.level()
			})
		}
	}
}

// P14.2: writers get in by the order in which they entered the queue, a reader that comes anew each time between them.
func TestWritersInOrder(t *testing.T) {
	gathered(t, 5, func(x *crowd) {
		x.does(4, api.Lock, yes)
		order := []int{2, 0, 3}
		x.calls(api.Lock, order...)
		ahead := 4
		for _, i := range order {
			x.calls(api.RLock, 1)
			x.waits(x.busy()...)
			x.does(ahead, api.Unlock, yes)
			x.waits(x.busy(1)...)
			x.ends(1, yes)
			x.waits(x.busy()...)
			x.does(1, api.RUnlock, yes)
			x.ends(i, yes)
			x.waits(x.busy()...)
			ahead = i
		}
		x.does(3, api.Unlock, yes)
		x.free(3, 4)
	})
}

// P14.2: writers enter the queue by their swaps, whatever order they began in, or tell the one ahead of them in.
func TestOrderOfSwaps(t *testing.T) {
	gathered(t, 5, func(x *crowd) {
		x.does(4, api.Lock, yes)
		for i := range 4 {
			x.begin(i, api.Lock)
			x.until(i, 2)
		}
		order := []int{2, 0, 3, 1}
		for _, i := range order {
			x.step(i)
		}
		x.waits(1, 0, 3, 2)
		x.does(4, api.Unlock, yes)
		for k, i := range order {
			x.waits(order[k+1:]...)
			x.ends(i, yes)
			x.waits(order[k+1:]...)
			x.does(i, api.Unlock, yes)
		}
		x.free(0, 5)
	})
}

// P14.1: who gives the queue on, and finds that another one came and hasn't told so yet, waits for that, whichever operation gives it on.
func TestLateComer(t *testing.T) {
	for _, x := range []struct {
		ahead       []int // of the task 0
		op, at, ret int   // its operation, and the line ahead of which the other one comes
	}{
		{[]int{api.Lock}, api.Unlock, 4, yes},
		{[]int{api.TryLock}, api.Unlock, 3, yes},
		{[]int{api.RLock, api.TryUpgrade}, api.Unlock, 0, yes},
		{[]int{api.Lock}, api.Downgrade, 4, yes},
		{[]int{api.RLock, api.TryUpgrade}, api.Downgrade, 1, yes},
		{nil, api.TryLock, 9, no},
		{nil, api.TryLock, 2, no},
		{[]int{api.RLock}, api.TryUpgrade, 9, no},
		{[]int{api.RLock}, api.TryUpgrade, 8, no},
	} {
		gathered(t, 3, func(c *crowd) {
			if x.ret == no {
				c.does(2, api.RLock, yes)
			}
			for _, op := range x.ahead {
				c.does(0, op, yes)
			}
			c.begin(0, x.op)
			c.until(0, x.at)
			c.begin(1, api.Lock)
			c.until(1, 3)
			c.waits(0)
			c.until(1, 4)
			c.ends(0, x.ret)
			for _, i := range []int{0, 2} {
				if c.hold[i] == reads {
					c.waits(1)
					c.does(i, api.RUnlock, yes)
				}
			}
			c.ends(1, yes)
			c.does(1, api.Unlock, yes)
			c.level()
		})
	}
}

// P14.2: who goes down reads from then on, together with the readers that waited, and ahead of the writer that waits.
func TestDowngrade(t *testing.T) {
	gathered(t, 4, func(x *crowd) {
		x.does(0, api.Lock, yes)
		x.calls(api.RLock, 1)
		x.calls(api.Lock, 2)
		x.calls(api.RLock, 3)
		x.does(0, api.Downgrade, yes)
		x.waits(2)
		x.ends(1, yes)
		x.ends(3, yes)
		x.waits(2)
		x.holds(reads, reads, awaitWrite, reads)
		x.does(0, api.TryUpgrade, no)
		x.does(0, api.RUnlock, yes)
		x.waits(2)
		x.does(1, api.RUnlock, yes)
		x.waits(2)
		x.does(3, api.RUnlock, yes)
		x.ends(2, yes)
		x.does(2, api.Unlock, yes)
		x.free(3, 2)
	})
}

// P14.2: who goes down counts itself by the step by which it is present no more, so that a writer doesn't get in between, at whichever of its lines that comes on.
func TestDowngradeAheadOfWriter(t *testing.T) {
	for _, n := range []int{0, 1, 2, 3, 6} {
		gathered(t, 2, func(x *crowd) {
			x.does(0, api.Lock, yes)
			x.calls(api.Lock, 1)
			x.begin(0, api.Downgrade)
			x.until(0, n)
			x.waits(1)
			if n < 2 {
				x.holds(writes, awaitWrite)
			} else {
				x.holds(reads, awaitWrite)
			}
			x.ends(0, yes)
			x.waits(1)
			x.holds(reads, awaitWrite)
			x.does(0, api.RUnlock, yes)
			x.ends(1, yes)
			x.does(1, api.Unlock, yes)
			x.free(1, 2)
		})
	}
}

// P14.2: as many tasks as there may be: behind a writer all readers read together, and behind them the writers come in one by one.
func TestAllTasks(t *testing.T) {
	gathered(t, api.MaxTasks, func(x *crowd) {
		last := api.MaxTasks - 1
		x.does(last, api.Lock, yes)
		var readers, writers []int
		for i := range last {
			if i%3 == 1 {
				writers = append(writers, i)
				x.begin(i, api.Lock)
				x.until(i, 4)
				continue
			}
			readers = append(readers, i)
			x.begin(i, api.RLock)
			x.step(i)
		}
		x.does(last, api.Unlock, yes)
		for _, i := range readers {
			x.waits(writers[0])
			x.ends(i, yes)
		}
		x.waits(writers...)
		for _, i := range readers {
			x.waits(writers[0])
			x.does(i, api.RUnlock, yes)
		}
		for k, i := range writers {
			x.waits(writers[k+1 : min(k+2, len(writers))]...)
			x.ends(i, yes)
			x.waits(writers[k+1 : min(k+2, len(writers))]...)
			x.does(i, api.Unlock, yes)
		}
		x.free(uint32(len(readers)), uint32(len(writers))+1)
	})
}
