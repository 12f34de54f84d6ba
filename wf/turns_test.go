package wf_test

import (
	"testing"

	"stileman/api"
)

const (
	reads      = api.HoldRead
	writes     = api.HoldWrite
	awaitRead  = -api.HoldRead
	awaitWrite = -api.HoldWrite
)

// P16.1: readers that come one behind the other read together, and a writer behind them waits for the last of them, whoever leaves first.
func TestReadersTogether(t *testing.T) {
	gathered(t, 4, func(x *crowd) {
		x.does(2, api.RLock, yes)
		x.does(0, api.TryRLock, yes)
		x.does(1, api.RLock, yes)
		x.holds(reads, reads, reads, 0)
		x.calls(api.Lock, 3)
		x.does(0, api.RUnlock, yes)
		x.waits(3)
		x.does(2, api.RUnlock, yes)
		x.waits(3)
		x.holds(0, reads, 0, awaitWrite)
		x.does(1, api.RUnlock, yes)
		x.ends(3, yes)
		x.holds(0, 0, 0, writes)
		x.does(3, api.Unlock, yes)
		x.free()
	})
}

// P16.1: a reader that comes while a writer waits for readers waits, too, behind that one; so the writer gets in when those leave that were in.
func TestWritersFirst(t *testing.T) {
	gathered(t, 4, func(x *crowd) {
		x.does(0, api.RLock, yes)
		x.calls(api.Lock, 1)
		x.calls(api.RLock, 2)
		x.does(3, api.TryRLock, no)
		x.waits(1, 2)
		x.holds(reads, awaitWrite, awaitRead, 0)
		x.does(0, api.RUnlock, yes)
		x.waits(2)
		x.ends(1, yes)
		x.waits(2)
		x.holds(0, writes, awaitRead, 0)
		x.does(1, api.Unlock, yes)
		x.ends(2, yes)
		x.does(3, api.TryRLock, yes)
		x.holds(0, 0, reads, reads)
		x.leaves(2, 3)
		x.free()
	})
}

// P16.1: a reader waits until no writer has a ticket, also for writers that came behind it.
func TestReaderBehindAllWriters(t *testing.T) {
	gathered(t, 4, func(x *crowd) {
		x.does(0, api.Lock, yes)
		x.calls(api.RLock, 1)
		x.calls(api.Lock, 2)
		x.calls(api.Lock, 3)
		x.does(0, api.Unlock, yes)
		x.waits(1, 3)
		x.ends(2, yes)
		x.waits(3, 1)
		x.does(2, api.Unlock, yes)
		x.calls(api.Lock, 0)
		x.waits(1)
		x.holds(awaitWrite, awaitRead, 0, awaitWrite)
		x.ends(3, yes)
		x.waits(1, 0)
		x.does(3, api.Unlock, yes)
		x.waits(1)
		x.ends(0, yes)
		x.waits(1)
		x.does(0, api.Unlock, yes)
		x.ends(1, yes)
		x.does(1, api.RUnlock, yes)
		x.free()
	})
}

// P16.1: a writer that comes while nobody is in gets in at once, though a reader is about to, at whichever of its lines; that one waits then.
func TestWriterAheadOfClaim(t *testing.T) {
	for n := range 4 {
		gathered(t, 3, func(x *crowd) {
			switch n {
			case 0, 1: // the reader has begun, and has seen that no writer has a ticket
				x.begin(0, api.RLock)
				x.steps(0, n)
			case 2: // it waited, and has seen it then
				x.does(2, api.Lock, yes)
				x.calls(api.RLock, 0)
				x.does(2, api.Unlock, yes)
				for x.runs[0].Frame.Line != 1 {
					x.steps(0, 1)
				}
			case 3: // another one was ahead of its claim, and it is to look again
				x.begin(0, api.RLock)
				x.steps(0, 1)
				x.does(2, api.RLock, yes)
				x.steps(0, 1)
				x.does(2, api.RUnlock, yes)
			}
			x.does(1, api.Lock, yes)
			x.waits(0)
			x.holds(awaitRead, writes, 0)
			x.does(1, api.Unlock, yes)
			x.ends(0, yes)
			x.does(0, api.RUnlock, yes)
			x.free()
		})
	}
}

// P4: two writers that write by turns, so that one of them always has a ticket, let a reader wait for ever, and longer than it takes tickets to go round; it gets in when they pause.
func TestReaderWaits(t *testing.T) {
	gathered(t, 3, func(x *crowd) {
		x.does(0, api.Lock, yes)
		x.calls(api.RLock, 2)
		for i := range 300 {
			x.calls(api.Lock, 1-i%2)
			x.waits(2)
			x.does(i%2, api.Unlock, yes)
			x.waits(2)
			x.ends(1-i%2, yes)
			x.waits(2)
		}
		x.holds(writes, 0, awaitRead)
		x.does(0, api.Unlock, yes)
		x.ends(2, yes)
		x.does(2, api.RUnlock, yes)
		x.free()
	})
}

// P16.1: writers get in one by one in the order of their tickets, whoever is picked first, behind a writer and behind readers.
func TestTickets(t *testing.T) {
	for _, first := range []int{api.Lock, api.RLock, api.TryLock} {
		for _, order := range [][]int{{1, 2, 3}, {3, 1, 2}, {2, 3, 1}, {3, 2, 1}} {
			gathered(t, 4, func(x *crowd) {
				x.does(0, first, yes)
				for _, i := range order {
					x.calls(api.Lock, i)
				}
				x.leaves(0)
				for k, i := range order {
					x.waits(order[k+1:]...)
					x.ends(i, yes)
					x.waits(order[k+1:]...)
					x.does(i, api.Unlock, yes)
				}
				x.free()
			})
		}
	}
}

// P16.1: when the last writer leaves, or goes down, the readers that wait read together, and with it.
func TestReadersBehindWriter(t *testing.T) {
	for _, down := range []bool{false, true} {
		gathered(t, 4, func(x *crowd) {
			x.does(0, api.Lock, yes)
			x.calls(api.RLock, 1, 2)
			x.calls(api.RLock, 3)
			x.holds(writes, awaitRead, awaitRead, awaitRead)
			own := 0
			if down {
				x.does(0, api.Downgrade, yes)
				own = reads
			} else {
				x.does(0, api.Unlock, yes)
			}
			x.ends(3, yes)
			x.ends(1, yes)
			x.ends(2, yes)
			x.holds(own, reads, reads, reads)
			x.leaves(0, 1, 2, 3)
			x.free()
		})
	}
}

// refusal is a try that is refused, by what others hold, or wait for.
type refusal struct {
	ahead []int // operations of the tasks 0, 2 and 3 that end; below 0: that wait
	op    int   // the try, of the task 1
}

// refusals are tries that are refused.
func refusals() []refusal {
	return []refusal{
		{[]int{api.Lock}, api.TryRLock},
		{[]int{api.TryLock}, api.TryRLock},
		{[]int{api.Lock, -api.RLock}, api.TryRLock},
		{[]int{api.Lock, -api.Lock, -api.RLock}, api.TryRLock},
		{[]int{api.RLock, -api.Lock}, api.TryRLock},
		{[]int{api.RLock, api.TryRLock, -api.Lock}, api.TryRLock},
		{[]int{api.RLock, -api.Lock, -api.Lock}, api.TryRLock},
		{[]int{api.Lock}, api.TryLock},
		{[]int{api.TryLock, -api.Lock}, api.TryLock},
		{[]int{api.RLock}, api.TryLock},
		{[]int{api.RLock, api.TryRLock, -api.Lock}, api.TryLock},
		{[]int{api.RLock, -api.Lock, -api.RLock}, api.TryLock},
		{[]int{api.Lock, -api.RLock, -api.RLock}, api.TryLock},
		{[]int{api.RLock}, api.TryUpgrade},
		{[]int{api.RLock, api.TryRLock, api.RLock}, api.TryUpgrade},
		{[]int{-api.Lock}, api.TryUpgrade},
		{[]int{-api.Lock, -api.Lock, -api.RLock}, api.TryUpgrade},
		{[]int{api.TryRLock, -api.Lock}, api.TryUpgrade},
	}
}

// P16.2: a try is refused by its first step while one holds, or waits for, what is in its way; it leaves all cells as they were, and what was held.
func TestRefused(t *testing.T) {
	for _, x := range refusals() {
		gathered(t, 4, func(c *crowd) {
			if x.op == api.TryUpgrade {
				c.does(1, api.RLock, yes)
			}
			for i, op := range x.ahead {
				task := []int{0, 2, 3}[i]
				if op > 0 {
					c.does(task, op, yes)
				} else {
					c.calls(-op, task)
				}
			}
			want, ahead := c.m.All(), c.ledger.copied()
			c.begin(1, x.op)
			over := c.step(1)
			if got := text(&c.runs[1]); got != "load 0 was "+hex(ahead.word(c.base))+", 1 refuse" || !over || c.runs[1].Frame.Ret != no {
				t.Fatalf("%+v in the mode %d, from %d: %s, %v", x, c.mode, c.base, got, over)
			}
			same(t, c, want, ahead)
		})
	}
}

// same fails the test, unless the cells, and what each task holds and asks for, are like that.
func same(t *testing.T, x *crowd, words []uint32, l ledger) {
	t.Helper()
	want := l.hold
	for i := range want {
		if want[i] == api.HoldNone {
			want[i] = -l.asks[i]
		}
	}
	x.holds(want...)
	for c, v := range x.m.All() {
		if v != words[c] {
			t.Errorf("%d tasks in the mode %d: the cell %d was %x, and is %x", x.n, x.mode, c, words[c], v)
		}
	}
}

// P16.2: who waits to read is in no try's way: it is counted by nobody until it is in.
func TestWaitersInNoWay(t *testing.T) {
	gathered(t, 3, func(x *crowd) {
		x.begin(1, api.RLock)
		x.steps(1, 1)
		x.does(0, api.TryLock, yes)
		x.waits(1)
		x.does(0, api.Downgrade, yes)
		x.does(0, api.TryUpgrade, yes)
		x.waits(1)
		x.does(0, api.Unlock, yes)
		x.does(2, api.TryLock, yes)
		x.waits(1)
		x.holds(0, awaitRead, writes)
		x.does(2, api.Unlock, yes)
		x.does(0, api.TryRLock, yes)
		x.ends(1, yes)
		x.holds(reads, reads, 0)
		x.leaves(0, 1)
		x.free()
	})
}

// P16.2: a refused try does the same again, once nobody is in its way.
func TestRefusedThenNot(t *testing.T) {
	gathered(t, 2, func(x *crowd) {
		x.does(0, api.TryLock, yes)
		x.does(1, api.TryRLock, no)
		x.does(1, api.TryLock, no)
		x.does(0, api.Downgrade, yes)
		x.does(1, api.TryLock, no)
		x.does(1, api.TryRLock, yes)
		x.does(0, api.TryUpgrade, no)
		x.does(1, api.TryUpgrade, no)
		x.holds(reads, reads)
		x.does(0, api.RUnlock, yes)
		x.does(1, api.TryUpgrade, yes)
		x.holds(0, writes)
		x.does(0, api.TryRLock, no)
		x.does(1, api.Unlock, yes)
		x.does(0, api.TryLock, yes)
		x.does(0, api.Unlock, yes)
		x.free()
	})
}

// overtaking is what the task 0 does behind the first step of an operation of the task 1.
type overtaking struct {
	own, op int   // of the task 1: what it does ahead, and the operation
	by      []int // below 0: it waits
	ret     int
	steps   int // of the operation in all
}

// overtakings are some such.
func overtakings() []overtaking {
	return []overtaking{
		{api.Rest, api.TryRLock, []int{api.Lock}, no, 3},
		{api.Rest, api.TryRLock, []int{api.RLock}, yes, 4},
		{api.Rest, api.TryRLock, []int{api.RLock, api.RUnlock}, yes, 2},
		{api.Rest, api.TryRLock, []int{api.Lock, api.Unlock}, yes, 4},
		{api.Rest, api.TryRLock, []int{api.Lock, api.Downgrade}, yes, 4},
		{api.Rest, api.TryLock, []int{api.RLock}, no, 3},
		{api.Rest, api.TryLock, []int{api.Lock}, no, 3},
		{api.Rest, api.TryLock, []int{api.RLock, api.RUnlock}, yes, 2},
		{api.Rest, api.TryLock, []int{api.TryLock, api.Unlock}, yes, 4},
		{api.Rest, api.TryLock, []int{api.Lock, api.Downgrade}, no, 3},
		{api.RLock, api.TryUpgrade, []int{api.RLock}, no, 3},
		{api.RLock, api.TryUpgrade, []int{api.RLock, api.RUnlock}, yes, 2},
		{api.TryRLock, api.TryUpgrade, []int{api.TryRLock}, no, 3},
		{api.RLock, api.TryUpgrade, []int{-api.Lock}, no, 3},
		{api.Rest, api.RLock, []int{api.RLock}, yes, 4},
		{api.Rest, api.RLock, []int{api.RLock, api.RUnlock}, yes, 2},
		{api.Rest, api.RLock, []int{api.Lock, api.Unlock}, yes, 4},
		{api.Rest, api.RLock, []int{api.TryLock, api.Downgrade}, yes, 4},
	}
}

// P16.1: an operation whose word somebody changes between its steps looks again, and is refused then, or goes on, as the word is by then.
func TestOvertaken(t *testing.T) {
	for _, x := range overtakings() {
		gathered(t, 2, func(c *crowd) {
			if x.own != api.Rest {
				c.does(1, x.own, yes)
			}
			c.begin(1, x.op)
			c.steps(1, 1)
			for _, op := range x.by {
				if op > 0 {
					c.does(0, op, yes)
				} else {
					c.calls(-op, 0)
				}
			}
			c.steps(1, x.steps-2)
			if !c.step(1) || c.runs[1].Frame.Ret != x.ret {
				c.fails(1, "it ends later, or with another result")
			}
			c.leaves(1)
			if c.on[0] {
				c.ends(0, yes)
			}
			c.leaves(0)
			c.free()
		})
	}
}

// P16.1: a try that is overtaken again and again looks again each time, and gets in, or is refused, by what it sees last.
func TestOvertakenTwice(t *testing.T) {
	gathered(t, 3, func(x *crowd) {
		x.begin(1, api.TryRLock)
		x.steps(1, 1)
		x.does(0, api.RLock, yes)
		x.steps(1, 2)
		x.does(2, api.RLock, yes)
		x.steps(1, 2)
		x.does(0, api.RUnlock, yes)
		x.steps(1, 2)
		x.ends(1, yes)
		x.holds(0, reads, reads)
		x.leaves(2, 1)
		x.begin(1, api.TryLock)
		x.steps(1, 1)
		x.does(0, api.RLock, yes)
		x.steps(1, 1)
		x.does(0, api.RUnlock, yes)
		x.steps(1, 1)
		x.does(2, api.Lock, yes)
		x.steps(1, 1)
		x.ends(1, no)
		x.holds(0, 0, writes)
		x.leaves(2)
		x.free()
	})
}

// P16.1: a reader whose claim comes late again and again looks again each time, and waits, if a writer has drawn a ticket by then.
func TestClaimsLate(t *testing.T) {
	gathered(t, 3, func(x *crowd) {
		x.begin(1, api.RLock)
		x.steps(1, 1)
		for range 5 {
			x.does(0, api.RLock, yes)
			x.steps(1, 2)
			x.does(0, api.RUnlock, yes)
			x.steps(1, 2)
			x.does(2, api.Lock, yes)
			x.waits(1)
			x.does(2, api.Unlock, yes)
			for x.runs[1].Frame.Line != 1 {
				x.steps(1, 1)
			}
		}
		x.ends(1, yes)
		x.holds(0, reads, 0)
		x.leaves(1)
		x.free()
	})
}

// P16.1: what a writer that leaves, or goes down, adds hangs on no ticket that others draw between its steps.
func TestTicketsDrawnMeanwhile(t *testing.T) {
	for _, op := range []int{api.Unlock, api.Downgrade} {
		gathered(t, 4, func(x *crowd) {
			x.does(0, api.Lock, yes)
			x.begin(0, op)
			x.steps(0, 1)
			x.calls(api.Lock, 2)
			x.calls(api.RLock, 1)
			x.calls(api.Lock, 3)
			x.ends(0, yes)
			x.waits(1, 3)
			x.leaves(0)
			x.ends(2, yes)
			x.leaves(2)
			x.waits(1)
			x.ends(3, yes)
			x.leaves(3)
			x.ends(1, yes)
			x.leaves(1)
			x.free()
		})
	}
}

// P16.2: who gets up was the only one that held, and keeps out those that come then; the writers among these get in ahead of the readers.
func TestUpgrade(t *testing.T) {
	gathered(t, 4, func(x *crowd) {
		x.does(0, api.RLock, yes)
		x.does(1, api.RLock, yes)
		x.does(0, api.TryUpgrade, no)
		x.does(1, api.RUnlock, yes)
		x.does(0, api.TryUpgrade, yes)
		x.calls(api.RLock, 3)
		x.does(1, api.TryRLock, no)
		x.does(1, api.TryLock, no)
		x.calls(api.Lock, 2)
		x.waits(3)
		x.holds(writes, 0, awaitWrite, awaitRead)
		x.does(0, api.Unlock, yes)
		x.waits(3)
		x.ends(2, yes)
		x.waits(3)
		x.does(2, api.Unlock, yes)
		x.ends(3, yes)
		x.leaves(3)
		x.free()
	})
}

// P16.2: of two readers that want up, whichever way their steps come, neither gets up while the other one reads; one gets up, if the other one leaves ahead of its look.
func TestTwoUp(t *testing.T) {
	for _, away := range []bool{false, true} {
		gathered(t, 2, func(x *crowd) {
			x.does(0, api.RLock, yes)
			x.does(1, api.RLock, yes)
			x.begin(0, api.TryUpgrade)
			x.begin(1, api.TryUpgrade)
			x.ends(1, no)
			if away {
				x.leaves(1)
				x.ends(0, yes)
				x.holds(writes, 0)
			} else {
				x.ends(0, no)
				x.holds(reads, reads)
			}
			x.leaves(0, 1)
			x.free()
		})
	}
}

// P16.2: who goes down reads from that step on, so that no writer gets in between; while another writer waits no other reader gets in with it, and it doesn't get up again.
func TestDowngrade(t *testing.T) {
	gathered(t, 4, func(x *crowd) {
		x.does(0, api.Lock, yes)
		x.calls(api.RLock, 1)
		x.calls(api.Lock, 2)
		x.begin(0, api.Downgrade)
		x.steps(0, 1)
		x.waits(1, 2)
		x.holds(writes, awaitRead, awaitWrite, 0)
		x.step(0)
		x.holds(reads, awaitRead, awaitWrite, 0)
		x.waits(1, 2)
		if x.on[0] {
			x.ends(0, yes)
		}
		x.waits(1, 2)
		x.does(3, api.TryRLock, no)
		x.does(0, api.TryUpgrade, no)
		x.holds(reads, awaitRead, awaitWrite, 0)
		x.leaves(0)
		x.waits(1)
		x.ends(2, yes)
		x.waits(1)
		x.leaves(2)
		x.ends(1, yes)
		x.leaves(1)
		x.free()
	})
}

// P16.2: as many tasks as there may be: behind a writer the other writers come in one by one, in the order of their tickets, and behind the last of them all readers read together.
func TestAllTasks(t *testing.T) {
	gathered(t, api.MaxTasks, func(x *crowd) {
		last := api.MaxTasks - 1
		x.does(last, api.Lock, yes)
		var readers, writers []int
		for k := range last {
			i, op := k*5%last, api.RLock
			if i%3 == 1 {
				op = api.Lock
				writers = append(writers, i)
			} else {
				readers = append(readers, i)
			}
			x.begin(i, op)
			x.steps(i, 9)
		}
		x.does(last, api.Unlock, yes)
		for k, i := range writers {
			x.waits(readers[k], readers[0])
			x.waits(writers[k+1:]...)
			x.ends(i, yes)
			x.does(i, api.Unlock, yes)
		}
		for _, i := range readers {
			x.ends(i, yes)
		}
		if x.holders(reads, nobody) != len(readers) {
			x.fails(0, "they don't read together")
		}
		x.leaves(readers...)
		x.free()
	})
}

// P16.2: as many writers as there may be, each of which has a ticket, get in in the order of these.
func TestAllWriters(t *testing.T) {
	gathered(t, api.MaxTasks, func(x *crowd) {
		for i := range x.n {
			x.begin(i*11%x.n, api.Lock)
			x.steps(i*11%x.n, 1)
		}
		for i := range x.n {
			x.ends(i*11%x.n, yes)
			x.does(i*11%x.n, api.Unlock, yes)
		}
		x.free()
	})
}

// P16.2: readers alone, as many as there may be, never wait, and never touch what a writer is told by.
func TestAllReaders(t *testing.T) {
	gathered(t, api.MaxTasks, func(x *crowd) {
		for i := range x.n {
			x.does(i, []int{api.RLock, api.TryRLock}[i%2], yes)
		}
		if v := word(x.base, x.base, 64); x.m.Load(0) != v {
			x.fails(0, "another number of readers was counted")
		}
		for i := range x.n {
			x.does(i, api.TryUpgrade, map[bool]int{true: yes, false: no}[i == x.n-1])
			x.leaves(i)
		}
		x.free()
	})
}
