package tf_test

import (
	"slices"
	"testing"

	"stileman/api"
)

const (
	reads      = api.HoldRead
	writes     = api.HoldWrite
	awaitRead  = -api.HoldRead
	awaitWrite = -api.HoldWrite
)

// P10.2: readers that come one behind the other read together, and a writer behind them waits for the last of them, whoever leaves first.
func TestReadersTogether(t *testing.T) {
	gathered(t, 4, func(x *crowd) {
		x.does(2, api.RLock, yes)
		x.does(0, api.TryRLock, yes)
		x.does(1, api.RLock, yes)
		x.holds(reads, reads, reads, 0)
		x.begin(3, api.Lock)
		x.waits(3)
		x.does(0, api.RUnlock, yes)
		x.waits(3)
		x.does(2, api.RUnlock, yes)
		x.waits(3)
		x.holds(0, reads, 0, awaitWrite)
		x.does(1, api.RUnlock, yes)
		x.ends(3, yes)
		x.holds(0, 0, 0, writes)
		x.does(3, api.Unlock, yes)
		x.free(4)
	})
}

// P10.2: who comes first goes first: readers behind a writer wait, though others read; behind it they read together.
func TestFirstComeFirstGo(t *testing.T) {
	gathered(t, 5, func(x *crowd) {
		x.does(0, api.RLock, yes)
		x.begin(1, api.Lock)
		x.waits(1)
		x.begin(2, api.RLock)
		x.waits(2)
		x.begin(3, api.RLock)
		x.waits(3, 2, 1)
		x.begin(4, api.Lock)
		x.waits(4, 2, 3, 1)
		x.holds(reads, awaitWrite, awaitRead, awaitRead, awaitWrite)
		x.does(0, api.RUnlock, yes)
		x.waits(4, 3, 2)
		x.ends(1, yes)
		x.waits(4, 3, 2)
		x.holds(0, writes, awaitRead, awaitRead, awaitWrite)
		x.does(1, api.Unlock, yes)
		x.ends(2, yes)
		x.waits(4)
		x.ends(3, yes)
		x.waits(4)
		x.holds(0, 0, reads, reads, awaitWrite)
		x.does(3, api.RUnlock, yes)
		x.waits(4)
		x.does(2, api.RUnlock, yes)
		x.ends(4, yes)
		x.does(4, api.Unlock, yes)
		x.free(5)
	})
}

// P10.1: a writer that leaves lets the readers behind it in by its first line, and no writer, until its second one.
func TestLeave(t *testing.T) {
	for _, op := range []int{api.RLock, api.Lock} {
		gathered(t, 2, func(x *crowd) {
			x.does(0, api.Lock, yes)
			x.begin(1, op)
			x.waits(1)
			x.begin(0, api.Unlock)
			x.step(0)
			for x.runs[0].Frame.Wake.On {
				x.step(0)
			}
			if op == api.RLock {
				x.ends(1, yes)
				x.holds(0, reads)
				x.begin(1, api.RUnlock)
			} else {
				x.waits(1)
				x.holds(0, awaitWrite)
			}
			x.ends(0, yes)
			x.ends(1, yes)
			if op == api.Lock {
				x.does(1, api.Unlock, yes)
			}
			x.free(2)
		})
	}
}

// P10.2: a try while one holds what conflicts, or waits for it, is refused, and nothing is left of it.
func TestRefused(t *testing.T) {
	for _, x := range []struct {
		holder, waiter, op, ret int
	}{
		{api.RLock, api.Rest, api.TryRLock, yes},
		{api.RLock, api.Rest, api.TryLock, no},
		{api.Lock, api.Rest, api.TryRLock, no},
		{api.Lock, api.Rest, api.TryLock, no},
		{api.RLock, api.Lock, api.TryRLock, no},
		{api.RLock, api.Lock, api.TryLock, no},
		{api.Lock, api.RLock, api.TryRLock, no},
		{api.Lock, api.Lock, api.TryLock, no},
	} {
		gathered(t, 3, func(c *crowd) {
			c.does(0, x.holder, yes)
			if x.waiter != api.Rest {
				c.begin(2, x.waiter)
				c.waits(2)
			}
			ahead, hold := c.m.All(), slices.Clone(c.hold)
			c.does(1, x.op, x.ret)
			if x.ret == yes {
				hold[1] = reads
			} else if all := c.m.All(); !slices.Equal(all, ahead) {
				t.Errorf("%+v: the cells were %x, and are %x", x, ahead, all)
			}
			c.holds(hold...)
		})
	}
}

// P10.2: a refused try does the same again, once nobody is in its way.
func TestRefusedThenNot(t *testing.T) {
	gathered(t, 2, func(x *crowd) {
		x.does(0, api.TryLock, yes)
		x.does(1, api.TryRLock, no)
		x.does(1, api.TryLock, no)
		x.does(0, api.Downgrade, yes)
		x.does(1, api.TryLock, no)
		x.does(1, api.TryRLock, yes)
		x.does(0, api.TryUpgrade, no)
		x.does(1, api.TryUpgrade, no)
		x.holds(reads, reads)
		x.does(0, api.RUnlock, yes)
		x.does(1, api.TryUpgrade, yes)
		x.holds(0, writes)
		x.does(0, api.TryRLock, no)
		x.does(1, api.Unlock, yes)
		x.does(0, api.TryLock, yes)
		x.does(0, api.Unlock, yes)
		x.free(4)
	})
}

// P10.2: who wants up while another one waits to write is refused, and reads on; the other one gets in when it leaves.
func TestUpgradeBehindWaiter(t *testing.T) {
	gathered(t, 2, func(x *crowd) {
		x.does(0, api.RLock, yes)
		x.begin(1, api.Lock)
		x.waits(1)
		ahead := ownOf(x.m)
		x.does(0, api.TryUpgrade, no)
		if ownOf(x.m) != ahead {
			t.Errorf("the cells were %x, and are %x", ahead, ownOf(x.m))
		}
		x.waits(1)
		x.does(0, api.RUnlock, yes)
		x.ends(1, yes)
		x.does(1, api.Unlock, yes)
		x.free(2)
	})
}

// P10.2: who gets up keeps those out that come between its steps; they get in behind it, in their order.
func TestUpgradeAheadOfComers(t *testing.T) {
	for _, op := range []int{api.RLock, api.Lock} {
		gathered(t, 2, func(x *crowd) {
			x.does(0, api.RLock, yes)
			x.begin(0, api.TryUpgrade)
			for range 3 {
				x.step(0)
			}
			x.holds(writes, 0)
			x.begin(1, op)
			x.waits(1)
			x.ends(0, yes)
			x.waits(1)
			x.does(0, api.Unlock, yes)
			x.ends(1, yes)
			if op == api.RLock {
				x.does(1, api.RUnlock, yes)
			} else {
				x.does(1, api.Unlock, yes)
			}
			x.free(3)
		})
	}
}

// P10.2: of two readers that want up, whichever way their steps come, neither gets up while the other one reads.
func TestTwoUp(t *testing.T) {
	gathered(t, 2, func(x *crowd) {
		x.does(0, api.RLock, yes)
		x.does(1, api.RLock, yes)
		x.begin(0, api.TryUpgrade)
		x.begin(1, api.TryUpgrade)
		x.step(0)
		x.step(1)
		x.ends(1, no)
		x.ends(0, no)
		x.holds(reads, reads)
		x.does(0, api.RUnlock, yes)
		x.does(1, api.RUnlock, yes)
		x.free(2)
	})
}

// P10.2: who goes down reads from then on, together with the readers that waited, and ahead of the writer behind these.
func TestDowngrade(t *testing.T) {
	gathered(t, 4, func(x *crowd) {
		x.does(0, api.Lock, yes)
		x.begin(1, api.RLock)
		x.waits(1)
		x.begin(2, api.Lock)
		x.waits(2)
		x.begin(3, api.RLock)
		x.waits(3)
		x.does(0, api.Downgrade, yes)
		x.waits(2, 3)
		x.ends(1, yes)
		x.waits(2, 3)
		x.holds(reads, reads, awaitWrite, awaitRead)
		x.does(0, api.RUnlock, yes)
		x.waits(2, 3)
		x.does(1, api.RUnlock, yes)
		x.ends(2, yes)
		x.waits(3)
		x.does(2, api.Unlock, yes)
		x.ends(3, yes)
		x.does(3, api.RUnlock, yes)
		x.free(4)
	})
}

// P10.1: a try whose ticket somebody draws between its steps looks again, and is refused then, or goes on, once that one has left.
func TestOvertaken(t *testing.T) {
	for _, x := range []struct {
		op    int
		by    []int
		steps int // ahead of the other one's
		ret   int
	}{
		{api.TryRLock, []int{api.Lock}, 1, no},
		{api.TryRLock, []int{api.Lock}, 2, no},
		{api.TryRLock, []int{api.Lock, api.Unlock}, 1, yes},
		{api.TryRLock, []int{api.Lock, api.Unlock}, 2, yes},
		{api.TryRLock, []int{api.RLock}, 1, yes},
		{api.TryRLock, []int{api.RLock}, 2, yes},
		{api.TryLock, []int{api.RLock}, 1, no},
		{api.TryLock, []int{api.RLock}, 2, no},
		{api.TryLock, []int{api.RLock, api.RUnlock}, 1, yes},
		{api.TryLock, []int{api.Lock}, 2, no},
		{api.TryLock, []int{api.Lock, api.Unlock}, 1, yes},
		{api.TryLock, []int{api.Lock, api.Unlock}, 2, yes},
	} {
		gathered(t, 2, func(c *crowd) {
			c.begin(1, x.op)
			for range x.steps {
				c.step(1)
			}
			for _, op := range x.by {
				c.does(0, op, yes)
			}
			c.ends(1, x.ret)
			if held := c.hold[1] > 0; held != (x.ret == yes) {
				t.Errorf("%+v: the task holds %d", x, c.hold[1])
			}
		})
	}
}

// P10.1: one who wants up, and whose ticket others draw and give back between its steps, looks again, and gets up.
func TestUpgradeOvertaken(t *testing.T) {
	for steps := range 3 {
		gathered(t, 2, func(x *crowd) {
			x.does(0, api.RLock, yes)
			x.begin(0, api.TryUpgrade)
			for range steps {
				x.step(0)
			}
			x.does(1, api.RLock, yes)
			x.does(1, api.RUnlock, yes)
			x.ends(0, yes)
			x.holds(writes, 0)
			x.does(0, api.Unlock, yes)
			x.free(3)
		})
	}
}

// P10.2: as many tasks as there may be: each one waits for the one ahead of it, writers alone and readers together; and the last of them come in, too.
func TestAllTasks(t *testing.T) {
	gathered(t, api.MaxTasks, func(x *crowd) {
		last := api.MaxTasks - 1
		x.does(last, api.Lock, yes)
		for i := range last {
			op := api.RLock
			if i%3 == 1 {
				op = api.Lock
			}
			x.begin(i, op)
			x.step(i)
		}
		x.does(last, api.Unlock, yes)
		for i := range last {
			switch i % 3 {
			case 1:
				for j := max(i-2, 0); j < i; j++ {
					x.waits(i)
					x.does(j, api.RUnlock, yes)
				}
			case 2:
				x.waits(i)
				x.does(i-1, api.Unlock, yes)
			}
			x.ends(i, yes)
		}
		x.does(last-1, api.RUnlock, yes)
		x.free(uint32(api.MaxTasks))
	})
}
