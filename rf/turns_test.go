package rf_test

import (
	"testing"

	"stileman/api"
)

const (
	reads      = api.HoldRead
	writes     = api.HoldWrite
	awaitRead  = -api.HoldRead
	awaitWrite = -api.HoldWrite
)

// P15.1: readers that come one behind the other read together, and a writer behind them waits for the last of them, whoever leaves first.
func TestReadersTogether(t *testing.T) {
	gathered(t, 4, func(x *crowd) {
		x.does(2, api.RLock, yes)
		x.does(0, api.TryRLock, yes)
		x.does(1, api.RLock, yes)
		x.holds(reads, reads, reads, 0)
		x.calls(api.Lock, 3)
		x.does(0, api.RUnlock, yes)
		x.waits(3)
		x.does(2, api.RUnlock, yes)
		x.waits(3)
		x.holds(0, reads, 0, awaitWrite)
		x.does(1, api.RUnlock, yes)
		x.ends(3, yes)
		x.holds(0, 0, 0, writes)
		x.does(3, api.Unlock, yes)
		x.free()
	})
}

// P15.1: a reader that comes while readers are in reads by its first step, though a writer waits; the writer gets in when the last reader has left.
func TestReadersFirst(t *testing.T) {
	gathered(t, 4, func(x *crowd) {
		x.does(0, api.RLock, yes)
		x.calls(api.Lock, 1)
		x.begin(2, api.RLock)
		if !x.step(2) {
			x.fails(2, "it doesn't read at once")
		}
		x.does(3, api.TryRLock, yes)
		x.waits(1)
		x.holds(reads, awaitWrite, reads, reads)
		x.does(0, api.RUnlock, yes)
		x.does(3, api.RUnlock, yes)
		x.waits(1)
		x.does(2, api.RUnlock, yes)
		x.ends(1, yes)
		x.does(1, api.Unlock, yes)
		x.free()
	})
}

// P15.1: a reader that comes while nobody is in reads at once, though a writer is about to get in, at whichever of its lines; that one waits then.
func TestReaderAheadOfClaim(t *testing.T) {
	for n := range 3 {
		gathered(t, 3, func(x *crowd) {
			if n == 2 { // the writer waited, and has seen that nobody is in
				x.does(2, api.RLock, yes)
				x.calls(api.Lock, 1)
				x.does(2, api.RUnlock, yes)
				for x.runs[1].Frame.Line != 1 {
					x.steps(1, 1)
				}
			} else {
				x.begin(1, api.Lock)
				x.steps(1, n)
			}
			x.does(0, api.RLock, yes)
			x.waits(1)
			x.holds(reads, awaitWrite, 0)
			x.does(0, api.RUnlock, yes)
			x.ends(1, yes)
			x.does(1, api.Unlock, yes)
			x.free()
		})
	}
}

// P4: two readers that read by turns, so that one of them always does, let a writer wait for ever; it gets in when they pause.
func TestWriterWaits(t *testing.T) {
	gathered(t, 3, func(x *crowd) {
		x.does(0, api.RLock, yes)
		x.calls(api.Lock, 2)
		for range 100 {
			x.does(1, api.RLock, yes)
			x.does(0, api.RUnlock, yes)
			x.waits(2)
			x.does(0, api.TryRLock, yes)
			x.waits(2)
			x.does(1, api.RUnlock, yes)
			x.waits(2)
		}
		x.holds(reads, 0, awaitWrite)
		x.does(0, api.RUnlock, yes)
		x.ends(2, yes)
		x.does(2, api.Unlock, yes)
		x.free()
	})
}

// P15.1: while a writer is in readers wait, and read as soon as it leaves, all together, and ahead of the writers that wait, whoever came first.
func TestReadersBehindWriter(t *testing.T) {
	for _, down := range []bool{false, true} {
		gathered(t, 5, func(x *crowd) {
			x.does(0, api.Lock, yes)
			x.calls(api.Lock, 1)
			x.calls(api.RLock, 2, 3)
			x.calls(api.Lock, 4)
			x.waits(3, 4, 2, 1)
			x.holds(writes, awaitWrite, awaitRead, awaitRead, awaitWrite)
			own := 0
			if down {
				x.does(0, api.Downgrade, yes)
				own = reads
			} else {
				x.does(0, api.Unlock, yes)
			}
			x.waits(4, 1)
			x.ends(3, yes)
			x.waits(1, 4)
			x.ends(2, yes)
			x.waits(4, 1)
			x.holds(own, awaitWrite, reads, reads, awaitWrite)
			x.leaves(3, 0)
			x.waits(1, 4)
			x.leaves(2)
			x.ends(4, yes)
			x.waits(1)
			x.does(4, api.Unlock, yes)
			x.ends(1, yes)
			x.does(1, api.Unlock, yes)
			x.free()
		})
	}
}

// P15.1: a reader that waits is counted: until it has read and left no writer gets in, neither by a try nor by the way up.
func TestWaitingReaderCounts(t *testing.T) {
	gathered(t, 3, func(x *crowd) {
		x.does(0, api.Lock, yes)
		x.begin(1, api.RLock)
		x.waits(1)
		x.does(0, api.Downgrade, yes)
		x.does(0, api.TryUpgrade, no)
		x.does(2, api.TryLock, no)
		x.does(0, api.RUnlock, yes)
		x.does(2, api.TryLock, no)
		x.calls(api.Lock, 2)
		x.holds(0, awaitRead, awaitWrite)
		x.does(0, api.TryLock, no)
		x.ends(1, yes)
		x.waits(2)
		x.does(1, api.RUnlock, yes)
		x.ends(2, yes)
		x.does(2, api.Unlock, yes)
		x.free()
	})
}

// P15.1: of writers that wait one gets in when nobody is in any more, whichever claims the word first, and the others wait on.
func TestWritersClaim(t *testing.T) {
	for _, order := range [][]int{{1, 2, 3}, {3, 1, 2}, {2, 3, 1}, {3, 2, 1}} {
		gathered(t, 4, func(x *crowd) {
			x.does(0, api.Lock, yes)
			x.calls(api.Lock, 1, 2, 3)
			x.does(0, api.Unlock, yes)
			for _, i := range []int{1, 2, 3} {
				for x.runs[i].Frame.Line != 1 { // all of them have seen it
					x.steps(i, 1)
				}
			}
			for k, i := range order {
				x.ends(i, yes)
				x.waits(order[k+1:]...)
				x.does(i, api.Unlock, yes)
			}
			x.free()
		})
	}
}

// refusal is a try that is refused, by what others hold, or wait for, and the word that it sees.
type refusal struct {
	ahead []int // operations of the tasks 0, 2 and 3 that end; below 0: that wait
	op    int   // the try, of the task 1
	word  uint32
}

// refusals are tries that are refused.
func refusals() []refusal {
	return []refusal{
		{[]int{api.Lock}, api.TryRLock, w},
		{[]int{api.TryLock}, api.TryRLock, w},
		{[]int{api.Lock, -api.RLock}, api.TryRLock, w + 1},
		{[]int{api.Lock, -api.Lock, -api.RLock}, api.TryRLock, w + 1},
		{[]int{api.Lock}, api.TryLock, w},
		{[]int{api.RLock}, api.TryLock, 1},
		{[]int{api.RLock, api.TryRLock, -api.Lock}, api.TryLock, 2},
		{[]int{api.Lock, -api.RLock, -api.RLock}, api.TryLock, w + 2},
		{[]int{api.RLock}, api.TryUpgrade, 2},
		{[]int{api.TryRLock, -api.Lock, api.RLock}, api.TryUpgrade, 3},
	}
}

// P15.2: a try is refused by its first step while one holds, or waits for, what is in its way; it leaves all cells as they were, and what was held.
func TestRefused(t *testing.T) {
	for _, x := range refusals() {
		gathered(t, 4, func(c *crowd) {
			if x.op == api.TryUpgrade {
				c.does(1, api.RLock, yes)
			}
			for i, op := range x.ahead {
				task := []int{0, 2, 3}[i]
				if op > 0 {
					c.does(task, op, yes)
				} else {
					c.calls(-op, task)
				}
			}
			want, ahead := c.m.All(), c.ledger.copied()
			c.begin(1, x.op)
			over := c.step(1)
			if got := text(&c.runs[1]); got != "load 0 was "+hex(x.word)+", 1 refuse" || !over || c.runs[1].Frame.Ret != no {
				t.Fatalf("%+v in the mode %d: %s, %v", x, c.mode, got, over)
			}
			same(t, c, want, ahead)
		})
	}
}

// same fails the test, unless the cells, and what each task holds and asks for, are like that.
func same(t *testing.T, x *crowd, words []uint32, l ledger) {
	t.Helper()
	x.t = t
	want := l.hold
	for i := range want {
		if want[i] == api.HoldNone {
			want[i] = -l.asks[i]
		}
	}
	x.holds(want...)
	for c, v := range x.m.All() {
		if v != words[c] {
			t.Errorf("%d tasks in the mode %d: the cell %d was %x, and is %x", x.n, x.mode, c, words[c], v)
		}
	}
}

// P15.2: who waits to write is in no try's way: it is counted by nobody.
func TestWaitersInNoWay(t *testing.T) {
	gathered(t, 3, func(x *crowd) {
		x.does(0, api.RLock, yes)
		x.calls(api.Lock, 1)
		x.does(2, api.TryRLock, yes)
		x.does(2, api.RUnlock, yes)
		x.does(0, api.TryUpgrade, yes)
		x.waits(1)
		x.does(0, api.Unlock, yes)
		x.does(2, api.TryLock, yes)
		x.waits(1)
		x.does(2, api.Downgrade, yes)
		x.waits(1)
		x.does(2, api.TryUpgrade, yes)
		x.waits(1)
		x.does(2, api.Unlock, yes)
		x.ends(1, yes)
		x.does(1, api.Unlock, yes)
		x.free()
	})
}

// P15.2: a refused try does the same again, once nobody is in its way.
func TestRefusedThenNot(t *testing.T) {
	gathered(t, 2, func(x *crowd) {
		x.does(0, api.TryLock, yes)
		x.does(1, api.TryRLock, no)
		x.does(1, api.TryLock, no)
		x.does(0, api.Downgrade, yes)
		x.does(1, api.TryLock, no)
		x.does(1, api.TryRLock, yes)
		x.does(0, api.TryUpgrade, no)
		x.does(1, api.TryUpgrade, no)
		x.holds(reads, reads)
		x.does(0, api.RUnlock, yes)
		x.does(1, api.TryUpgrade, yes)
		x.holds(0, writes)
		x.does(0, api.TryRLock, no)
		x.does(1, api.Unlock, yes)
		x.does(0, api.TryLock, yes)
		x.does(0, api.Unlock, yes)
		x.free()
	})
}

// P15.1: a try whose word somebody changes between its steps looks again, and is refused then, or goes on, as the word is by then.
func TestOvertaken(t *testing.T) {
	for _, x := range []struct {
		own, op int // of the task 1: what it does ahead, and the try
		by      []int
		ret     int
		steps   int // of the try in all
	}{
		{api.Rest, api.TryRLock, []int{api.Lock}, no, 3},
		{api.Rest, api.TryRLock, []int{api.RLock}, yes, 4},
		{api.Rest, api.TryRLock, []int{api.RLock, api.RUnlock}, yes, 2},
		{api.Rest, api.TryRLock, []int{api.Lock, api.Unlock}, yes, 2},
		{api.Rest, api.TryRLock, []int{api.Lock, api.Downgrade}, yes, 4},
		{api.Rest, api.TryLock, []int{api.RLock}, no, 3},
		{api.Rest, api.TryLock, []int{api.Lock}, no, 3},
		{api.Rest, api.TryLock, []int{api.RLock, api.RUnlock}, yes, 2},
		{api.Rest, api.TryLock, []int{api.TryLock, api.Unlock}, yes, 2},
		{api.RLock, api.TryUpgrade, []int{api.RLock}, no, 3},
		{api.RLock, api.TryUpgrade, []int{api.RLock, api.RUnlock}, yes, 2},
		{api.TryRLock, api.TryUpgrade, []int{api.TryRLock}, no, 3},
	} {
		gathered(t, 2, func(c *crowd) {
			if x.own != api.Rest {
				c.does(1, x.own, yes)
			}
			c.begin(1, x.op)
			c.steps(1, 1)
			for _, op := range x.by {
				c.does(0, op, yes)
			}
			c.steps(1, x.steps-2)
			if !c.step(1) || c.runs[1].Frame.Ret != x.ret {
				c.fails(1, "it ends later, or with another result")
			}
			c.leaves(0, 1)
			c.free()
		})
	}
}

// P15.1: a try that is overtaken again and again looks again each time, and gets in, or is refused, by what it sees last.
func TestOvertakenTwice(t *testing.T) {
	gathered(t, 3, func(x *crowd) {
		x.begin(1, api.TryRLock)
		x.steps(1, 1)
		x.does(0, api.RLock, yes)
		x.steps(1, 2)
		x.does(2, api.RLock, yes)
		x.steps(1, 2)
		x.does(0, api.RUnlock, yes)
		x.steps(1, 2)
		x.ends(1, yes)
		x.holds(0, reads, reads)
		x.leaves(2, 1)
		x.begin(1, api.TryLock)
		x.steps(1, 1)
		x.does(0, api.RLock, yes)
		x.steps(1, 1)
		x.does(0, api.RUnlock, yes)
		x.steps(1, 1)
		x.does(2, api.Lock, yes)
		x.steps(1, 1)
		x.ends(1, no)
		x.holds(0, 0, writes)
		x.leaves(2)
		x.free()
	})
}

// P15.2: who gets up was the only one that held, and keeps out those that come then; a writer that waited longer gets in behind it.
func TestUpgrade(t *testing.T) {
	gathered(t, 4, func(x *crowd) {
		x.does(0, api.RLock, yes)
		x.does(1, api.RLock, yes)
		x.calls(api.Lock, 2)
		x.does(0, api.TryUpgrade, no)
		x.does(1, api.RUnlock, yes)
		x.does(0, api.TryUpgrade, yes)
		x.calls(api.RLock, 3)
		x.does(1, api.TryRLock, no)
		x.waits(2, 3)
		x.holds(writes, 0, awaitWrite, awaitRead)
		x.does(0, api.Unlock, yes)
		x.waits(2)
		x.ends(3, yes)
		x.waits(2)
		x.does(3, api.RUnlock, yes)
		x.ends(2, yes)
		x.does(2, api.Unlock, yes)
		x.free()
	})
}

// P15.2: of two readers that want up, whichever way their steps come, neither gets up while the other one reads; one gets up, if the other one leaves ahead of its claim.
func TestTwoUp(t *testing.T) {
	for n := range 2 {
		for _, away := range []bool{false, true} {
			gathered(t, 2, func(x *crowd) {
				x.does(0, api.RLock, yes)
				x.does(1, api.RLock, yes)
				x.begin(0, api.TryUpgrade)
				if n == 0 {
					x.does(1, api.TryUpgrade, no)
				} else {
					x.begin(1, api.TryUpgrade)
					x.ends(1, no)
				}
				if away {
					x.leaves(1)
					x.ends(0, yes)
					x.holds(writes, 0)
				} else {
					x.ends(0, no)
					x.holds(reads, reads)
				}
				x.leaves(0, 1)
				x.free()
			})
		}
	}
}

// P15.2: who goes down reads from that step on, so that no writer gets in between, and readers that come read with it.
func TestDowngrade(t *testing.T) {
	gathered(t, 4, func(x *crowd) {
		x.does(0, api.Lock, yes)
		x.calls(api.RLock, 1)
		x.calls(api.Lock, 2)
		x.begin(0, api.Downgrade)
		x.step(0)
		x.holds(reads, awaitRead, awaitWrite, 0)
		x.does(3, api.RLock, yes)
		x.waits(2)
		if x.on[0] {
			x.ends(0, yes)
		}
		x.ends(1, yes)
		x.waits(2)
		x.holds(reads, reads, awaitWrite, reads)
		x.leaves(0, 3)
		x.waits(2)
		x.leaves(1)
		x.ends(2, yes)
		x.leaves(2)
		x.free()
	})
}

// P15.2: as many tasks as there may be: behind a writer all readers read together, and behind the last of them the writers come in one by one.
func TestAllTasks(t *testing.T) {
	gathered(t, api.MaxTasks, func(x *crowd) {
		last := api.MaxTasks - 1
		x.does(last, api.Lock, yes)
		var readers, writers []int
		for i := range last {
			if i%3 == 1 {
				writers = append(writers, i)
				x.calls(api.Lock, i)
				continue
			}
			readers = append(readers, i)
			x.calls(api.RLock, i)
		}
		x.does(last, api.Unlock, yes)
		for _, i := range readers {
			x.waits(writers[0])
			x.ends(i, yes)
		}
		x.waits(writers...)
		for _, i := range readers {
			x.waits(writers[0])
			x.does(i, api.RUnlock, yes)
		}
		for k, i := range writers {
			x.ends(i, yes)
			x.waits(writers[k+1:]...)
			x.does(i, api.Unlock, yes)
		}
		x.free()
	})
}

// P15.2: readers alone, as many as there may be, never wait, and never touch what a writer is told by.
func TestAllReaders(t *testing.T) {
	gathered(t, api.MaxTasks, func(x *crowd) {
		for i := range x.n {
			x.does(i, []int{api.RLock, api.TryRLock}[i%2], yes)
		}
		if x.m.Load(0) != 64 {
			x.fails(0, "another number of readers was counted")
		}
		for i := range x.n {
			x.does(i, api.TryUpgrade, map[bool]int{true: yes, false: no}[i == x.n-1])
			x.leaves(i)
		}
		x.free()
	})
}
