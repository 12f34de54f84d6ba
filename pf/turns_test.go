package pf_test

import (
	"slices"
	"testing"

	"stileman/api"
)

const (
	reads      = api.HoldRead
	writes     = api.HoldWrite
	awaitRead  = -api.HoldRead
	awaitWrite = -api.HoldWrite
)

// P11.2: readers that come one behind the other read together, and a writer behind them waits for the last of them, whoever leaves first.
func TestReadersTogether(t *testing.T) {
	gathered(t, 4, func(x *crowd) {
		x.does(2, api.RLock, yes)
		x.does(0, api.TryRLock, yes)
		x.does(1, api.RLock, yes)
		x.holds(reads, reads, reads, 0)
		x.begin(3, api.Lock)
		x.waits(3)
		x.does(0, api.RUnlock, yes)
		x.waits(3)
		x.does(2, api.RUnlock, yes)
		x.waits(3)
		x.holds(0, reads, 0, awaitWrite)
		x.does(1, api.RUnlock, yes)
		x.ends(3, yes)
		x.holds(0, 0, 0, writes)
		x.does(3, api.Unlock, yes)
		x.free(3, 1, 1)
	})
}

// P11.2: readers that come while a writer is present read between it and the next writer, whether that one is present by then or not.
func TestByTurns(t *testing.T) {
	for _, early := range []bool{false, true} {
		gathered(t, 5, func(x *crowd) {
			x.does(0, api.Lock, yes)
			x.begin(1, api.Lock)
			x.waits(1)
			x.begin(2, api.RLock)
			x.begin(3, api.RLock)
			x.waits(3, 2, 1)
			x.holds(writes, awaitWrite, awaitRead, awaitRead, 0)
			x.does(0, api.Unlock, yes)
			if early {
				x.until(1, 4)
				x.waits(1)
			}
			x.ends(3, yes)
			x.waits(1)
			x.begin(4, api.RLock)
			x.waits(1, 4)
			x.ends(2, yes)
			x.waits(4, 1)
			x.holds(0, awaitWrite, reads, reads, awaitRead)
			x.does(2, api.RUnlock, yes)
			x.waits(4, 1)
			x.does(3, api.RUnlock, yes)
			x.waits(4)
			x.ends(1, yes)
			x.waits(4)
			x.holds(0, writes, 0, 0, awaitRead)
			x.does(1, api.Unlock, yes)
			x.ends(4, yes)
			x.does(4, api.RUnlock, yes)
			x.free(3, 2, 2)
		})
	}
}

// P11.2: a reader reads at once as long as a writer has no more than a ticket, and waits from the step on by which that is present.
func TestPresence(t *testing.T) {
	for n := range 5 {
		gathered(t, 3, func(x *crowd) {
			x.does(0, api.RLock, yes)
			x.begin(1, api.Lock)
			x.until(1, n)
			if n < 4 {
				x.does(2, api.RLock, yes)
				x.waits(1)
				x.holds(reads, awaitWrite, reads)
				x.does(2, api.RUnlock, yes)
				x.waits(1)
			} else {
				x.begin(2, api.RLock)
				x.waits(2, 1)
				x.holds(reads, awaitWrite, awaitRead)
			}
			x.does(0, api.RUnlock, yes)
			x.ends(1, yes)
			x.does(1, api.Unlock, yes)
			if n == 4 {
				x.ends(2, yes)
				x.does(2, api.RUnlock, yes)
			}
			x.free(2, 1, 1)
		})
	}
}

// P11.1: a writer that leaves lets the readers behind it in by its line 1, and the next writer by its line 3.
func TestLeave(t *testing.T) {
	for _, op := range []int{api.Unlock, api.Downgrade} {
		for n := range 4 {
			gathered(t, 3, func(x *crowd) {
				x.does(0, api.Lock, yes)
				x.begin(1, api.RLock)
				x.begin(2, api.Lock)
				x.waits(1, 2)
				x.begin(0, op)
				x.until(0, n)
				x.waits(2)
				if n < 2 {
					x.waits(1)
					x.holds(writes, awaitRead, awaitWrite)
				} else {
					x.ends(1, yes)
					x.does(1, api.RUnlock, yes)
					x.does(1, api.RLock, yes)
				}
				x.waits(2)
				x.ends(0, yes)
				if op == api.Downgrade {
					x.waits(2)
					x.does(0, api.RUnlock, yes)
				}
				if n < 2 {
					x.ends(1, yes)
				}
				x.waits(2)
				x.does(1, api.RUnlock, yes)
				x.ends(2, yes)
				x.does(2, api.Unlock, yes)
				x.level()
			})
		}
	}
}

// P11.2: writers get in by the order of their tickets, a reader that comes anew each time between them.
func TestWritersInOrder(t *testing.T) {
	gathered(t, 5, func(x *crowd) {
		x.does(4, api.Lock, yes)
		for _, i := range []int{2, 0, 3} {
			x.begin(i, api.Lock)
			x.waits(i)
		}
		ahead := 4
		for _, i := range []int{2, 0, 3} {
			x.begin(1, api.RLock)
			x.waits(x.busy()...)
			writers := x.busy(1)
			x.does(ahead, api.Unlock, yes)
			x.waits(writers...)
			x.ends(1, yes)
			x.waits(i)
			x.does(1, api.RUnlock, yes)
			x.ends(i, yes)
			ahead = i
		}
		x.does(3, api.Unlock, yes)
		x.free(3, 4, 4)
	})
}

// refusal is a try that is refused, by what others hold, or wait for.
type refusal struct {
	ahead   []int  // operations of the tasks 0, 2 and 3 that end; below 0: that wait
	op      int    // the try, of the task 1
	tickets uint32 // how many it draws, and gives back
}

// P11.2: a try is refused while one holds, or waits for, what is in its way, at each line that can refuse; it leaves rin and rout, and win and wout, as far from each other as they were, and holds what it held.
func TestRefused(t *testing.T) {
	for _, x := range []refusal{
		{[]int{api.Lock}, api.TryRLock, 0},
		{[]int{api.TryLock}, api.TryRLock, 0},
		{[]int{api.RLock, -api.Lock}, api.TryRLock, 0},
		{[]int{api.Lock, -api.RLock, -api.Lock}, api.TryRLock, 0},
		{[]int{api.Lock}, api.TryLock, 0},
		{[]int{api.RLock, -api.Lock}, api.TryLock, 0},
		{[]int{api.Lock, -api.Lock, -api.RLock}, api.TryLock, 0},
		{[]int{api.RLock}, api.TryLock, 1},
		{[]int{api.RLock, api.TryRLock, api.RLock}, api.TryLock, 1},
		{[]int{api.RLock}, api.TryUpgrade, 1},
		{[]int{api.TryRLock, api.RLock, api.RLock}, api.TryUpgrade, 1},
		{[]int{-api.Lock}, api.TryUpgrade, 0},
		{[]int{-api.Lock, -api.Lock, -api.RLock}, api.TryUpgrade, 0},
	} {
		gathered(t, 4, func(c *crowd) {
			if x.op == api.TryUpgrade {
				c.does(1, api.RLock, yes)
			}
			for i, op := range x.ahead {
				task := []int{0, 2, 3}[i]
				if op > 0 {
					c.does(task, op, yes)
				} else {
					c.begin(task, -op)
					c.waits(task)
				}
			}
			want, hold, asks := ownOf(c.m), slices.Clone(c.hold), slices.Clone(c.asks)
			c.does(1, x.op, no)
			want[2] += x.tickets
			want[3] += x.tickets
			if ownOf(c.m) != want || !slices.Equal(c.hold, hold) || !slices.Equal(c.asks, asks) {
				t.Errorf("%+v in the mode %d, from %x: the cells are %x, want %x, and %+v", x, c.mode, c.base, ownOf(c.m), want, c.ledger)
			}
		})
	}
}

// P11.1: the steps of refused tries, by each line that can refuse.
func TestRefusedSteps(t *testing.T) {
	for _, x := range []struct {
		ahead []int // of the task 0
		own   []int // of the task 1
		op    int
		steps []string
	}{
		{[]int{api.Lock}, nil, api.TryRLock, []string{"load 0 was 00000602, 1 refuse"}},
		{[]int{api.Lock, api.Unlock, api.Lock}, nil, api.TryRLock, []string{"load 0 was 00000603, 1 refuse"}},
		{[]int{api.Lock}, nil, api.TryLock, []string{"load 2 was 00000007", "load 3 was 00000006, 1 refuse"}},
		{[]int{api.RLock}, nil, api.TryLock, []string{"load 2 was 00000006", "load 3 was 00000006", "cas 2 00000006 00000007 was 00000006, 1 reg write", "load 0 was 00000700", "load 1 was 00000600, 1 refuse", "add 3 00000001 was 00000006, 1 pass"}},
		{[]int{api.RLock}, []int{api.RLock}, api.TryUpgrade, []string{"load 2 was 00000006", "load 3 was 00000006", "cas 2 00000006 00000007 was 00000006, 1 reg write", "load 0 was 00000800", "load 1 was 00000600, 1 refuse", "add 3 00000001 was 00000006, 1 pass"}},
	} {
		for _, mode := range modes() {
			m := lock(t, 2, 6)
			for _, op := range x.own {
				through(t, begun(m, 2, mode, 1, op))
			}
			for _, op := range x.ahead {
				through(t, begun(m, 2, mode, 0, op))
			}
			want := x.steps
			if mode == api.Parked && len(want) > 2 {
				want = append(slices.Clip(want), "load 12 was 00000000", "load 13 was 00000000")
			}
			r := begun(m, 2, mode, 1, x.op)
			if steps := through(t, r); !slices.Equal(steps, want) || r.Frame.Ret != no {
				t.Errorf("%+v in the mode %d: %q, %+v", x, mode, steps, r.Frame)
			}
		}
	}
}

// P11.2: a refused try does the same again, once nobody is in its way.
func TestRefusedThenNot(t *testing.T) {
	gathered(t, 2, func(x *crowd) {
		x.does(0, api.TryLock, yes)
		x.does(1, api.TryRLock, no)
		x.does(1, api.TryLock, no)
		x.does(0, api.Downgrade, yes)
		x.does(1, api.TryLock, no)
		x.does(1, api.TryRLock, yes)
		x.does(0, api.TryUpgrade, no)
		x.does(1, api.TryUpgrade, no)
		x.holds(reads, reads)
		x.does(0, api.RUnlock, yes)
		x.does(1, api.TryUpgrade, yes)
		x.holds(0, writes)
		x.does(0, api.TryRLock, no)
		x.does(1, api.Unlock, yes)
		x.does(0, api.TryLock, yes)
		x.does(0, api.Unlock, yes)
		x.free(2, 6, 3)
	})
}

// P11.2: a try that is refused behind its ticket lets the writer in that drew the next one meanwhile, once it has given its own back.
func TestRefusedGivesOn(t *testing.T) {
	gathered(t, 3, func(x *crowd) {
		x.does(0, api.RLock, yes)
		x.begin(1, api.TryLock)
		x.until(1, 3)
		x.begin(2, api.Lock)
		x.waits(2)
		x.until(1, 9)
		x.does(0, api.RUnlock, yes)
		x.waits(2)
		x.ends(1, no)
		x.ends(2, yes)
		x.does(2, api.Unlock, yes)
		x.free(1, 2, 1)
	})
}

// P11.2: who wants up while another one waits to write is refused, and reads on; the other one gets in when it leaves.
func TestUpgradeBehindWaiter(t *testing.T) {
	gathered(t, 2, func(x *crowd) {
		x.does(0, api.RLock, yes)
		x.begin(1, api.Lock)
		x.waits(1)
		ahead := ownOf(x.m)
		x.does(0, api.TryUpgrade, no)
		if ownOf(x.m) != ahead {
			t.Errorf("the cells were %x, and are %x", ahead, ownOf(x.m))
		}
		x.waits(1)
		x.does(0, api.RUnlock, yes)
		x.ends(1, yes)
		x.does(1, api.Unlock, yes)
		x.free(1, 1, 1)
	})
}

// P11.1: a try that saw nobody else inside waits for those alone who came since, ahead of its presence; who comes behind that waits for it.
func TestTryWaits(t *testing.T) {
	for _, op := range []int{api.TryLock, api.TryUpgrade} {
		for _, n := range []int{5, 6} {
			gathered(t, 4, func(x *crowd) {
				own := 0
				if op == api.TryUpgrade {
					x.does(0, api.RLock, yes)
					own = reads
				}
				x.begin(0, op)
				x.until(0, n)
				x.does(1, api.RLock, yes)
				x.does(2, api.TryRLock, yes)
				x.until(0, 7)
				x.waits(0)
				x.does(3, api.TryRLock, no)
				x.begin(3, api.RLock)
				x.waits(3, 0)
				x.does(1, api.RUnlock, yes)
				x.waits(0, 3)
				if own == 0 {
					x.holds(awaitWrite, 0, reads, awaitRead)
				} else {
					x.holds(reads, 0, reads, awaitRead)
				}
				x.does(2, api.RUnlock, yes)
				x.waits(3)
				x.ends(0, yes)
				x.waits(3)
				x.holds(writes, 0, 0, awaitRead)
				x.does(0, api.Unlock, yes)
				x.ends(3, yes)
				x.does(3, api.RUnlock, yes)
				x.free(uint32(3+own), 1, 1)
			})
		}
	}
}

// P11.2: of two readers that want up, whichever way their steps come, neither gets up while the other one reads.
func TestTwoUp(t *testing.T) {
	for n := range 5 {
		gathered(t, 2, func(x *crowd) {
			x.does(0, api.RLock, yes)
			x.does(1, api.RLock, yes)
			x.begin(0, api.TryUpgrade)
			x.until(0, n)
			x.does(1, api.TryUpgrade, no)
			x.ends(0, no)
			x.holds(reads, reads)
			x.does(0, api.RUnlock, yes)
			x.does(1, api.TryUpgrade, yes)
			x.does(1, api.Unlock, yes)
			x.level()
		})
	}
}

// P11.2: who goes down reads from then on, together with the readers that waited, and ahead of the writer that waits.
func TestDowngrade(t *testing.T) {
	gathered(t, 4, func(x *crowd) {
		x.does(0, api.Lock, yes)
		x.begin(1, api.RLock)
		x.waits(1)
		x.begin(2, api.Lock)
		x.waits(2)
		x.begin(3, api.RLock)
		x.waits(3)
		x.does(0, api.Downgrade, yes)
		x.waits(2)
		x.ends(1, yes)
		x.ends(3, yes)
		x.waits(2)
		x.holds(reads, reads, awaitWrite, reads)
		x.does(0, api.TryUpgrade, no)
		x.does(0, api.RUnlock, yes)
		x.waits(2)
		x.does(1, api.RUnlock, yes)
		x.waits(2)
		x.does(3, api.RUnlock, yes)
		x.ends(2, yes)
		x.does(2, api.Unlock, yes)
		x.free(3, 2, 2)
	})
}

// P11.1: a try that others overtake between its steps looks again, and is refused then, or goes on, once these have left.
func TestOvertaken(t *testing.T) {
	for _, x := range []struct {
		op  int
		by  []int
		at  int // the line ahead of which the others come
		ret int
	}{
		{api.TryRLock, []int{api.Lock}, 0, no},
		{api.TryRLock, []int{api.Lock}, 1, no},
		{api.TryRLock, []int{api.Lock, api.Unlock}, 1, yes},
		{api.TryRLock, []int{api.Lock, api.Downgrade}, 1, yes},
		{api.TryRLock, []int{api.RLock}, 1, yes},
		{api.TryRLock, []int{api.RLock, api.RUnlock}, 1, yes},
		{api.TryLock, []int{api.Lock}, 0, no},
		{api.TryLock, []int{api.Lock}, 1, no},
		{api.TryLock, []int{api.Lock}, 2, no},
		{api.TryLock, []int{api.Lock, api.Unlock}, 1, yes},
		{api.TryLock, []int{api.Lock, api.Unlock}, 2, yes},
		{api.TryLock, []int{api.Lock, api.Downgrade}, 1, no},
		{api.TryLock, []int{api.RLock}, 1, no},
		{api.TryLock, []int{api.RLock}, 2, no},
		{api.TryLock, []int{api.RLock}, 3, no},
		{api.TryLock, []int{api.RLock, api.RUnlock}, 3, yes},
		{api.TryLock, []int{api.RLock, api.RUnlock}, 4, yes},
		{api.TryLock, []int{api.RLock, api.RUnlock}, 5, yes},
		{api.TryLock, []int{api.RLock, api.RUnlock}, 6, yes},
	} {
		gathered(t, 2, func(c *crowd) {
			c.begin(1, x.op)
			c.until(1, x.at)
			for _, op := range x.by {
				c.does(0, op, yes)
			}
			c.ends(1, x.ret)
			if held := c.hold[1] > 0; held != (x.ret == yes) {
				t.Errorf("%+v: the task holds %d", x, c.hold[1])
			}
		})
	}
}

// P11.1: a try whose ticket another one draws ahead of its cas looks again, and goes on, if that one has left by then.
func TestTicketGone(t *testing.T) {
	gathered(t, 2, func(x *crowd) {
		x.begin(1, api.TryLock)
		x.until(1, 2)
		x.does(0, api.Lock, yes)
		x.until(1, 0)
		x.does(0, api.Unlock, yes)
		x.ends(1, yes)
		x.does(1, api.Unlock, yes)
		x.free(0, 2, 2)
	})
}

// P11.1: one who wants up, and whom others overtake between its steps, gets up once they have left.
func TestUpgradeOvertaken(t *testing.T) {
	for n := range 7 {
		gathered(t, 2, func(x *crowd) {
			x.does(0, api.RLock, yes)
			x.begin(0, api.TryUpgrade)
			x.until(0, n)
			x.does(1, api.RLock, yes)
			x.does(1, api.RUnlock, yes)
			x.ends(0, yes)
			x.holds(writes, 0)
			x.does(0, api.Unlock, yes)
			x.free(2, 1, 1)
		})
	}
}

// P11.1: one who wants up, and whose ticket another one's refused try draws and gives back between its steps, looks again.
func TestUpgradeTicketGone(t *testing.T) {
	for n := range 3 {
		gathered(t, 2, func(x *crowd) {
			x.does(0, api.RLock, yes)
			x.begin(0, api.TryUpgrade)
			x.until(0, n)
			x.does(1, api.TryLock, no)
			x.ends(0, yes)
			x.does(0, api.Unlock, yes)
			x.free(1, 2, 1)
		})
	}
}

// P11.2: as many tasks as there may be: behind a writer all readers read together, and behind them the writers come in one by one.
func TestAllTasks(t *testing.T) {
	gathered(t, api.MaxTasks, func(x *crowd) {
		last := api.MaxTasks - 1
		x.does(last, api.Lock, yes)
		var readers, writers []int
		for i := range last {
			op := api.RLock
			if i%3 == 1 {
				op = api.Lock
				writers = append(writers, i)
			} else {
				readers = append(readers, i)
			}
			x.begin(i, op)
			x.step(i)
		}
		x.does(last, api.Unlock, yes)
		for _, i := range readers {
			x.waits(writers[0], writers[1])
			x.ends(i, yes)
		}
		for _, i := range readers {
			x.waits(writers[1], writers[0])
			x.does(i, api.RUnlock, yes)
		}
		for k, i := range writers {
			x.waits(writers[k+1:]...)
			x.ends(i, yes)
			x.waits(writers[k+1:]...)
			x.does(i, api.Unlock, yes)
		}
		n := uint32(len(writers)) + 1
		x.free(uint32(len(readers)), n, n)
	})
}
