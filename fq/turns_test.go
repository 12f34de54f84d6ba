package fq_test

import (
	"slices"
	"testing"

	"stileman/api"
)

const (
	reads      = api.HoldRead
	writes     = api.HoldWrite
	awaitRead  = -api.HoldRead
	awaitWrite = -api.HoldWrite
)

// P13.2: readers that come one behind the other read together, and a writer behind them waits for the last of them, whoever leaves first.
func TestReadersTogether(t *testing.T) {
	gathered(t, 4, func(x *crowd) {
		x.does(2, api.RLock, yes)
		x.does(0, api.TryRLock, yes)
		x.does(1, api.RLock, yes)
		x.holds(reads, reads, reads, 0)
		x.calls(api.Lock, 3)
		x.does(0, api.RUnlock, yes)
		x.waits(3)
		x.does(2, api.RUnlock, yes)
		x.waits(3)
		x.holds(0, reads, 0, awaitWrite)
		x.does(1, api.RUnlock, yes)
		x.ends(3, yes)
		x.holds(0, 0, 0, writes)
		x.does(3, api.Unlock, yes)
		x.free()
	})
}

// P13.2: readers that stand side by side in the queue, behind a reader that hasn't given it on, or a writer, read together: each gives it on to the next one, and none has to leave for that; the writer behind them isn't let in by it.
func TestSideBySide(t *testing.T) {
	for _, op := range []int{api.RLock, api.TryRLock, api.Lock} {
		gathered(t, 5, func(x *crowd) {
			x.begin(0, op)
			x.until(0, 5)
			if op == api.Lock {
				x.ends(0, yes)
			}
			x.calls(api.RLock, 3, 1, 2)
			x.calls(api.Lock, 4)
			if op == api.Lock {
				x.does(0, api.Unlock, yes)
				x.does(0, api.TryRLock, no)
			} else {
				x.ends(0, yes)
			}
			for _, i := range []int{3, 1, 2} {
				x.waits(4)
				x.ends(i, yes)
			}
			x.waits(4)
			x.holds(map[bool]int{true: 0, false: reads}[op == api.Lock], reads, reads, reads, awaitWrite)
			if op != api.Lock {
				x.does(0, api.RUnlock, yes)
			}
			for _, i := range []int{2, 3, 1} {
				x.waits(4)
				x.does(i, api.RUnlock, yes)
			}
			x.ends(4, yes)
			x.does(4, api.Unlock, yes)
			x.free()
		})
	}
}

// P13.2: who comes first goes first: readers behind a writer wait, though others read; behind it they read together.
func TestFirstComeFirstGo(t *testing.T) {
	gathered(t, 5, func(x *crowd) {
		x.does(0, api.RLock, yes)
		x.calls(api.Lock, 1)
		x.calls(api.RLock, 2, 3)
		x.calls(api.Lock, 4)
		x.waits(4, 2, 3, 1)
		x.holds(reads, awaitWrite, awaitRead, awaitRead, awaitWrite)
		x.does(0, api.RUnlock, yes)
		x.waits(4, 3, 2)
		x.ends(1, yes)
		x.waits(4, 3, 2)
		x.holds(0, writes, awaitRead, awaitRead, awaitWrite)
		x.does(1, api.Unlock, yes)
		x.waits(4, 3)
		x.ends(2, yes)
		x.waits(4)
		x.ends(3, yes)
		x.waits(4)
		x.holds(0, 0, reads, reads, awaitWrite)
		x.does(3, api.RUnlock, yes)
		x.waits(4)
		x.does(2, api.RUnlock, yes)
		x.ends(4, yes)
		x.does(4, api.Unlock, yes)
		x.free()
	})
}

// P13.2: requests are admitted in the order in which they entered the queue, by their swaps, whatever order they began in, or tell the one ahead of them in.
func TestOrderOfSwaps(t *testing.T) {
	for _, ops := range [][]int{
		{api.Lock, api.Lock, api.Lock, api.Lock},
		{api.RLock, api.Lock, api.RLock, api.Lock},
		{api.Lock, api.RLock, api.RLock, api.Lock},
	} {
		gathered(t, 5, func(x *crowd) {
			x.does(4, api.Lock, yes)
			for i, op := range ops {
				x.begin(i, op)
				x.until(i, 2)
			}
			order := []int{2, 0, 3, 1}
			for _, i := range order {
				x.step(i)
			}
			x.waits(1, 0, 3, 2)
			x.does(4, api.Unlock, yes)
			for k, i := range order {
				x.waits(order[k+1:]...)
				x.ends(i, yes)
				if ops[i] == api.Lock {
					x.waits(order[k+1:]...)
				}
				x.does(i, leaving(x.hold[i]), yes)
			}
			x.free()
		})
	}
}

// P13.2: a writer that waits for those that read keeps the queue: nobody else gets in, not by a try either, and it isn't overtaken by who goes up.
func TestWriterKeepsQueue(t *testing.T) {
	gathered(t, 4, func(x *crowd) {
		x.does(0, api.RLock, yes)
		x.does(1, api.RLock, yes)
		x.calls(api.Lock, 2)
		x.does(3, api.TryRLock, no)
		x.does(3, api.TryLock, no)
		x.does(0, api.RUnlock, yes)
		x.does(1, api.TryUpgrade, no)
		x.does(3, api.TryRLock, no)
		x.waits(2)
		x.holds(0, reads, awaitWrite, 0)
		x.does(1, api.RUnlock, yes)
		x.ends(2, yes)
		x.does(2, api.Unlock, yes)
		x.free()
	})
}

// P13.1: who gives the queue on, and finds that another one came and hasn't told so yet, waits for that, whichever operation gives it on.
func TestLateComer(t *testing.T) {
	for _, x := range []struct {
		ahead       []int // of the task 0
		op, at, ret int   // its operation, and the line ahead of which the other one comes
	}{
		{nil, api.RLock, 7, yes},
		{nil, api.TryRLock, 7, yes},
		{[]int{api.Lock}, api.Unlock, 1, yes},
		{[]int{api.TryLock}, api.Unlock, 0, yes},
		{[]int{api.Lock}, api.Downgrade, 2, yes},
		{[]int{api.RLock, api.TryUpgrade}, api.Downgrade, 0, yes},
		{nil, api.TryLock, 7, no},
		{[]int{api.RLock}, api.TryUpgrade, 6, no},
	} {
		for _, comes := range []int{api.RLock, api.Lock} {
			gathered(t, 3, func(c *crowd) {
				if x.ret == no {
					c.does(2, api.RLock, yes)
				}
				for _, op := range x.ahead {
					c.does(0, op, yes)
				}
				c.begin(0, x.op)
				c.until(0, x.at)
				c.begin(1, comes)
				c.until(1, 3)
				c.waits(0)
				c.until(1, 4)
				c.ends(0, x.ret)
				if c.hold[0] == reads && comes == api.Lock {
					c.waits(1)
					c.does(0, api.RUnlock, yes)
				}
				if x.ret == no {
					c.does(2, api.RUnlock, yes)
				}
				c.ends(1, yes)
				c.does(1, leaving(c.hold[1]), yes)
				if c.hold[0] == reads {
					c.does(0, api.RUnlock, yes)
				}
				c.free()
			})
		}
	}
}

// refusal is a try that is refused, by what others hold, or wait for; and its steps behind the first store.
type refusal struct {
	ahead []int // operations of the tasks 0, 2 and 3 that end; below 0: that wait
	op    int   // the try, of the task 1
	steps []string
}

// refusals are tries that are refused by each of their lines that can refuse.
func refusals() []refusal {
	cas := func(was string) []string {
		return []string{"cas 0 00000000 00000002 was " + was + ", 1 refuse"}
	}
	count := func(was string) []string {
		return []string{"cas 0 00000000 00000002 was 00000000, 1 reg write", "load 1 was " + was + ", 1 refuse", "load 9 was 00000000", "cas 0 00000002 00000000 was 00000002, 1 pass"}
	}
	return []refusal{
		{[]int{api.Lock}, api.TryRLock, cas("00000001")},
		{[]int{api.TryLock}, api.TryRLock, cas("00000001")},
		{[]int{api.RLock, -api.Lock}, api.TryRLock, cas("00000003")},
		{[]int{api.Lock, -api.RLock, -api.Lock}, api.TryRLock, cas("00000004")},
		{[]int{api.Lock}, api.TryLock, cas("00000001")},
		{[]int{api.RLock, -api.Lock}, api.TryLock, cas("00000003")},
		{[]int{api.Lock, -api.Lock, -api.RLock}, api.TryLock, cas("00000004")},
		{[]int{api.RLock}, api.TryLock, count("00000001")},
		{[]int{api.RLock, api.TryRLock, api.RLock}, api.TryLock, count("00000003")},
		{[]int{api.RLock}, api.TryUpgrade, count("00000002")},
		{[]int{api.TryRLock, api.RLock, api.RLock}, api.TryUpgrade, count("00000004")},
		{[]int{-api.Lock}, api.TryUpgrade, cas("00000001")},
		{[]int{api.RLock, -api.Lock, -api.RLock}, api.TryUpgrade, cas("00000004")},
	}
}

// P13.2: a try is refused while one holds, or waits for, what is in its way, at each line that can refuse; it leaves tail and count as they were, and all cells of others, and what was held.
func TestRefused(t *testing.T) {
	for _, x := range refusals() {
		gathered(t, 4, func(c *crowd) {
			if x.op == api.TryUpgrade {
				c.does(1, api.RLock, yes)
			}
			for i, op := range x.ahead {
				task := []int{0, 2, 3}[i]
				if op > 0 {
					c.does(task, op, yes)
				} else {
					c.calls(-op, task)
				}
			}
			want, ahead := c.m.All(), c.ledger.copied()
			c.begin(1, x.op)
			c.step(1)
			for i, step := range x.steps {
				over := c.step(1)
				if got := text(&c.runs[1]); got != step || over != (i == len(x.steps)-1) {
					t.Fatalf("%+v in the mode %d, the step %d: %s, %v", x, c.mode, i, got, over)
				}
			}
			if c.runs[1].Frame.Ret != no || !slices.Equal(c.m.All(), want) || !slices.Equal(c.hold, ahead.hold) || !slices.Equal(c.asks, ahead.asks) || !slices.Equal(c.queue, ahead.queue) {
				t.Errorf("%+v in the mode %d: the cells are %x, want %x, and %+v", x, c.mode, c.m.All(), want, c.ledger)
			}
		})
	}
}

// P13.2: a refused try does the same again, once nobody is in its way.
func TestRefusedThenNot(t *testing.T) {
	gathered(t, 2, func(x *crowd) {
		x.does(0, api.TryLock, yes)
		x.does(1, api.TryRLock, no)
		x.does(1, api.TryLock, no)
		x.does(0, api.Downgrade, yes)
		x.does(1, api.TryLock, no)
		x.does(1, api.TryRLock, yes)
		x.does(0, api.TryUpgrade, no)
		x.does(1, api.TryUpgrade, no)
		x.holds(reads, reads)
		x.does(0, api.RUnlock, yes)
		x.does(1, api.TryUpgrade, yes)
		x.holds(0, writes)
		x.does(0, api.TryRLock, no)
		x.does(1, api.Unlock, yes)
		x.does(0, api.TryLock, yes)
		x.does(0, api.Unlock, yes)
		x.free()
	})
}

// P13.1: a try that is refused behind its entering gives the queue on to those that came meanwhile, in their order.
func TestRefusedGivesOn(t *testing.T) {
	for _, op := range []int{api.TryLock, api.TryUpgrade} {
		for _, n := range []int{2, 6, 7} {
			gathered(t, 4, func(x *crowd) {
				x.does(0, api.RLock, yes)
				if op == api.TryUpgrade {
					x.does(1, api.RLock, yes)
				}
				x.begin(1, op)
				x.until(1, n)
				x.calls(api.RLock, 2)
				x.calls(api.Lock, 3)
				x.waits(2)
				x.ends(1, no)
				x.waits(3)
				x.ends(2, yes)
				for _, i := range []int{0, 1, 2} {
					x.waits(3)
					if x.hold[i] == reads {
						x.does(i, api.RUnlock, yes)
					}
				}
				x.ends(3, yes)
				x.does(3, api.Unlock, yes)
				x.free()
			})
		}
	}
}

// P13.1: a try that others overtake between its steps is refused, or gets in, as it finds the queue and the count by then.
func TestOvertaken(t *testing.T) {
	for _, x := range []struct {
		ahead []int // of the task 0
		own   []int // of the task 1
		op    int
		at    int   // the line ahead of which the others go on
		by    []int // of the task 0
		ret   int
	}{
		{nil, nil, api.TryRLock, 0, []int{api.Lock}, no},
		{nil, nil, api.TryRLock, 1, []int{api.Lock}, no},
		{nil, nil, api.TryRLock, 1, []int{api.Lock, api.Unlock}, yes},
		{nil, nil, api.TryRLock, 1, []int{api.Lock, api.Downgrade}, yes},
		{nil, nil, api.TryRLock, 1, []int{api.RLock}, yes},
		{[]int{api.Lock}, nil, api.TryRLock, 1, []int{api.Unlock}, yes},
		{[]int{api.Lock}, nil, api.TryRLock, 1, []int{api.Downgrade}, yes},
		{[]int{api.RLock}, nil, api.TryRLock, 1, []int{api.TryUpgrade}, no},
		{nil, nil, api.TryLock, 0, []int{api.Lock}, no},
		{nil, nil, api.TryLock, 1, []int{api.Lock}, no},
		{nil, nil, api.TryLock, 1, []int{api.Lock, api.Unlock}, yes},
		{nil, nil, api.TryLock, 1, []int{api.Lock, api.Downgrade}, no},
		{nil, nil, api.TryLock, 1, []int{api.RLock}, no},
		{nil, nil, api.TryLock, 2, nil, yes},
		{[]int{api.RLock}, nil, api.TryLock, 2, []int{api.RUnlock}, yes},
		{[]int{api.RLock}, nil, api.TryLock, 6, []int{api.RUnlock}, no},
		{[]int{api.RLock}, []int{api.RLock}, api.TryUpgrade, 0, []int{api.RUnlock}, yes},
		{[]int{api.RLock}, []int{api.RLock}, api.TryUpgrade, 2, []int{api.RUnlock}, yes},
		{[]int{api.RLock}, []int{api.RLock}, api.TryUpgrade, 6, []int{api.RUnlock}, no},
		{nil, []int{api.RLock}, api.TryUpgrade, 1, []int{api.RLock}, no},
		{nil, []int{api.RLock}, api.TryUpgrade, 1, []int{api.RLock, api.RUnlock}, yes},
	} {
		gathered(t, 2, func(c *crowd) {
			for _, op := range x.ahead {
				c.does(0, op, yes)
			}
			for _, op := range x.own {
				c.does(1, op, yes)
			}
			c.begin(1, x.op)
			c.until(1, x.at)
			for _, op := range x.by {
				c.does(0, op, yes)
			}
			c.ends(1, x.ret)
			for i := range 2 {
				if op := leaving(c.hold[i]); op != api.Rest {
					c.does(i, op, yes)
				}
			}
			c.free()
		})
	}
}

// P13.2: who wants up while another one waits to write is refused, and reads on; the other one gets in when it leaves.
func TestUpgradeBehindWaiter(t *testing.T) {
	gathered(t, 2, func(x *crowd) {
		x.does(0, api.RLock, yes)
		x.calls(api.Lock, 1)
		x.does(0, api.TryUpgrade, no)
		x.holds(reads, awaitWrite)
		x.waits(1)
		x.does(0, api.RUnlock, yes)
		x.ends(1, yes)
		x.does(1, api.Unlock, yes)
		x.free()
	})
}

// P13.2: who wants up keeps those out that come behind its entering; they get in behind it, in their order.
func TestUpgradeAheadOfComers(t *testing.T) {
	for _, n := range []int{2, 3} {
		for _, ops := range [][]int{{api.RLock, api.Lock}, {api.Lock, api.RLock}} {
			gathered(t, 3, func(x *crowd) {
				x.does(0, api.RLock, yes)
				x.begin(0, api.TryUpgrade)
				x.until(0, n)
				x.calls(ops[0], 1)
				x.calls(ops[1], 2)
				x.ends(0, yes)
				x.waits(2, 1)
				x.does(0, api.Unlock, yes)
				for i := 1; i < 3; i++ {
					x.ends(i, yes)
					x.does(i, leaving(x.hold[i]), yes)
				}
				x.free()
			})
		}
	}
}

// P13.2: of two readers that want up, whichever way their steps come, neither gets up while the other one reads; one that is first gets up, if the other one is refused, and leaves ahead of its look.
func TestTwoUp(t *testing.T) {
	for _, n := range []int{0, 1, 2, 6, 7} {
		for _, leaves := range []bool{false, true} {
			gathered(t, 2, func(x *crowd) {
				x.does(0, api.RLock, yes)
				x.does(1, api.RLock, yes)
				x.begin(0, api.TryUpgrade)
				x.until(0, n)
				x.does(1, api.TryUpgrade, no)
				if leaves {
					x.does(1, api.RUnlock, yes)
				}
				if leaves && n < 6 {
					x.ends(0, yes)
					x.holds(writes, 0)
				} else {
					x.ends(0, no)
				}
				for i := range 2 {
					if op := leaving(x.hold[i]); op != api.Rest {
						x.does(i, op, yes)
					}
				}
				x.free()
			})
		}
	}
}

// P13.2: who goes down reads from then on, together with the readers next to it in the queue, and ahead of the writer behind these.
func TestDowngrade(t *testing.T) {
	gathered(t, 4, func(x *crowd) {
		x.does(0, api.Lock, yes)
		x.calls(api.RLock, 1)
		x.calls(api.Lock, 2)
		x.calls(api.RLock, 3)
		x.does(0, api.Downgrade, yes)
		x.waits(2, 3)
		x.ends(1, yes)
		x.waits(2, 3)
		x.holds(reads, reads, awaitWrite, awaitRead)
		x.does(0, api.TryUpgrade, no)
		x.does(0, api.RUnlock, yes)
		x.waits(2, 3)
		x.does(1, api.RUnlock, yes)
		x.ends(2, yes)
		x.waits(3)
		x.does(2, api.Unlock, yes)
		x.ends(3, yes)
		x.does(3, api.RUnlock, yes)
		x.free()
	})
}

// P13.2: who goes down counts itself ahead of giving the queue on, so that a writer doesn't get in between, at whichever of its lines that comes on.
func TestDowngradeAheadOfWriter(t *testing.T) {
	for _, n := range []int{0, 1, 4} {
		gathered(t, 2, func(x *crowd) {
			x.does(0, api.Lock, yes)
			x.calls(api.Lock, 1)
			x.begin(0, api.Downgrade)
			x.until(0, n)
			x.waits(1)
			x.holds(writes, awaitWrite)
			for x.hold[0] == writes {
				x.step(0)
			}
			x.waits(1)
			if x.on[0] { // who is parked is to be woken yet
				x.ends(0, yes)
			}
			x.waits(1)
			x.holds(reads, awaitWrite)
			x.does(0, api.RUnlock, yes)
			x.ends(1, yes)
			x.does(1, api.Unlock, yes)
			x.free()
		})
	}
}

// P13.2: as many tasks as there may be: each one waits for the one ahead of it, writers alone and readers together; and the last of them come in, too.
func TestAllTasks(t *testing.T) {
	gathered(t, api.MaxTasks, func(x *crowd) {
		last := api.MaxTasks - 1
		x.does(last, api.Lock, yes)
		for i := range last {
			op := api.RLock
			if i%3 == 1 {
				op = api.Lock
			}
			x.begin(i, op)
			x.until(i, 4)
		}
		x.does(last, api.Unlock, yes)
		for i := range last {
			switch i % 3 {
			case 1:
				for j := max(i-2, 0); j < i; j++ {
					x.waits(i, i+1)
					x.does(j, api.RUnlock, yes)
				}
			case 2:
				x.waits(i)
				x.does(i-1, api.Unlock, yes)
			}
			x.ends(i, yes)
		}
		x.does(last-1, api.RUnlock, yes)
		x.free()
	})
}
