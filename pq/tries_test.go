package pq_test

import (
	"slices"
	"testing"

	"stileman/api"
)

// refusal is a try that is refused, by what others hold, or wait for; and its steps.
type refusal struct {
	ahead []int // operations of the tasks 0, 2 and 3 that end; below 0: that wait
	op    int   // the try, of the task 1
	steps []string
}

// refusals are tries that are refused by each of their lines that can refuse, where readers and phases began to count at the base.
func refusals(base uint32) []refusal {
	present := func(came uint32) []string {
		return []string{"load 0 was " + hex(256*(base+came)+2+base%2) + ", 1 refuse"}
	}
	queue := func(was string) []string {
		return []string{"store 9 00000000 was 00000000", "cas 2 00000000 00000002 was " + was + ", 1 refuse"}
	}
	count := func(came uint32) []string {
		return []string{
			"store 9 00000000 was 00000000", "cas 2 00000000 00000002 was 00000000, 1 reg write",
			"load 0 was " + hex(256*(base+came)), "load 1 was " + hex(256*base) + ", 1 refuse",
			"load 9 was 00000000", "cas 2 00000002 00000000 was 00000002, 1 pass",
		}
	}
	return []refusal{
		{[]int{api.Lock}, api.TryRLock, present(0)},
		{[]int{api.TryLock}, api.TryRLock, present(0)},
		{[]int{api.RLock, -api.Lock}, api.TryRLock, present(1)},
		{[]int{api.Lock, -api.RLock, -api.Lock}, api.TryRLock, present(1)},
		{[]int{api.Lock}, api.TryLock, queue("00000001")},
		{[]int{api.TryLock}, api.TryLock, queue("00000001")},
		{[]int{api.RLock, -api.Lock}, api.TryLock, queue("00000003")},
		{[]int{api.Lock, -api.Lock, -api.RLock}, api.TryLock, queue("00000003")},
		{[]int{api.Lock, -api.RLock, -api.Lock}, api.TryLock, queue("00000004")},
		{[]int{api.RLock}, api.TryLock, count(1)},
		{[]int{api.RLock, api.TryRLock, api.RLock}, api.TryLock, count(3)},
		{[]int{api.RLock}, api.TryUpgrade, count(2)},
		{[]int{api.TryRLock, api.RLock, api.RLock}, api.TryUpgrade, count(4)},
		{[]int{-api.Lock}, api.TryUpgrade, queue("00000001")},
		{[]int{api.RLock, -api.Lock, -api.RLock}, api.TryUpgrade, queue("00000003")},
	}
}

// P14.2: a try is refused while one holds, or waits for, what is in its way, at each line that can refuse; it leaves all cells as they were, and what was held.
func TestRefused(t *testing.T) {
	gathered(t, 4, func(like *crowd) {
		for _, x := range refusals(like.base) {
			c := gather(t, 4, like.mode, like.base)
			if x.op == api.TryUpgrade {
				c.does(1, api.RLock, yes)
			}
			for i, op := range x.ahead {
				task := []int{0, 2, 3}[i]
				if op > 0 {
					c.does(task, op, yes)
				} else {
					c.calls(-op, task)
				}
			}
			want, ahead := c.m.All(), c.ledger.copied()
			c.begin(1, x.op)
			for i, step := range x.steps {
				over := c.step(1)
				if got := text(&c.runs[1]); got != step || over != (i == len(x.steps)-1) {
					t.Fatalf("%+v in the mode %d, the step %d: %s, %v", x, c.mode, i, got, over)
				}
			}
			if c.runs[1].Frame.Ret != no || !slices.Equal(c.m.All(), want) || !slices.Equal(c.hold, ahead.hold) || !slices.Equal(c.asks, ahead.asks) || !slices.Equal(c.queue, ahead.queue) {
				t.Errorf("%+v in the mode %d: the cells are %x, want %x, and %+v", x, c.mode, c.m.All(), want, c.ledger)
			}
		}
	})
}

// P14.2: a refused try does the same again, once nobody is in its way.
func TestRefusedThenNot(t *testing.T) {
	gathered(t, 2, func(x *crowd) {
		x.does(0, api.TryLock, yes)
		x.does(1, api.TryRLock, no)
		x.does(1, api.TryLock, no)
		x.does(0, api.Downgrade, yes)
		x.does(1, api.TryLock, no)
		x.does(1, api.TryRLock, yes)
		x.does(0, api.TryUpgrade, no)
		x.does(1, api.TryUpgrade, no)
		x.holds(reads, reads)
		x.does(0, api.RUnlock, yes)
		x.does(1, api.TryUpgrade, yes)
		x.holds(0, writes)
		x.does(0, api.TryRLock, no)
		x.does(1, api.Unlock, yes)
		x.does(0, api.TryLock, yes)
		x.does(0, api.Unlock, yes)
		x.free(2, 3)
	})
}

// P14.1: a try that is refused behind its entering gives the queue on to the writers that came meanwhile, in their order.
func TestRefusedGivesOn(t *testing.T) {
	for _, op := range []int{api.TryLock, api.TryUpgrade} {
		for _, n := range []int{2, 3, 8, 9} {
			gathered(t, 4, func(x *crowd) {
				x.does(0, api.RLock, yes)
				if op == api.TryUpgrade {
					x.does(1, api.RLock, yes)
				}
				x.begin(1, op)
				x.until(1, n)
				x.calls(api.Lock, 3, 2)
				x.ends(1, no)
				x.waits(2, 3)
				for _, i := range []int{0, 1} {
					if x.hold[i] == reads {
						x.waits(2, 3)
						x.does(i, api.RUnlock, yes)
					}
				}
				x.waits(2)
				x.ends(3, yes)
				x.waits(2)
				x.does(3, api.Unlock, yes)
				x.ends(2, yes)
				x.does(2, api.Unlock, yes)
				x.level()
			})
		}
	}
}

// P14.1: a try that saw nobody else inside waits for those alone who came since, ahead of its presence; who comes behind that waits for it.
func TestTryWaits(t *testing.T) {
	for _, op := range []int{api.TryLock, api.TryUpgrade} {
		for _, n := range []int{3, 4, 5} {
			gathered(t, 4, func(x *crowd) {
				own := 0
				if op == api.TryUpgrade {
					x.does(0, api.RLock, yes)
					own = reads
				}
				x.begin(0, op)
				x.until(0, n)
				x.does(1, api.RLock, yes)
				x.does(2, api.TryRLock, yes)
				x.until(0, 6)
				x.waits(0)
				x.does(3, api.TryRLock, no)
				x.does(3, api.TryLock, no)
				x.calls(api.RLock, 3)
				x.waits(0)
				x.does(1, api.RUnlock, yes)
				x.waits(0, 3)
				if own == 0 {
					x.holds(awaitWrite, 0, reads, awaitRead)
				} else {
					x.holds(reads, 0, reads, awaitRead)
				}
				x.does(2, api.RUnlock, yes)
				x.waits(3)
				x.ends(0, yes)
				x.waits(3)
				x.holds(writes, 0, 0, awaitRead)
				x.does(0, api.Unlock, yes)
				x.ends(3, yes)
				x.does(3, api.RUnlock, yes)
				x.free(uint32(3+own), 1)
			})
		}
	}
}

// overtaken is a try of the task 1 ahead of one of whose lines the task 0 does some operations.
type overtaken struct {
	ahead []int // of the task 0
	own   []int // of the task 1
	op    int
	at    int // the line
	by    []int
	ret   int
}

// overtakens are tries that look again, are refused, or get in, as they find the cells by then.
func overtakens() (l []overtaken) {
	l = []overtaken{
		{nil, nil, api.TryRLock, 0, []int{api.Lock}, no},
		{nil, nil, api.TryRLock, 1, []int{api.Lock}, no},
		{nil, nil, api.TryRLock, 1, []int{api.Lock, api.Unlock}, yes},
		{nil, nil, api.TryRLock, 1, []int{api.Lock, api.Downgrade}, yes},
		{nil, nil, api.TryRLock, 1, []int{api.RLock}, yes},
		{nil, nil, api.TryRLock, 1, []int{api.RLock, api.RUnlock}, yes},
		{[]int{api.Lock}, nil, api.TryRLock, 0, []int{api.Unlock}, yes},
		{[]int{api.Lock}, nil, api.TryRLock, 0, []int{api.Downgrade}, yes},
		{[]int{api.RLock}, nil, api.TryRLock, 1, []int{api.TryUpgrade}, no},
		{nil, nil, api.TryLock, 0, []int{api.Lock}, no},
		{nil, nil, api.TryLock, 1, []int{api.Lock}, no},
		{nil, nil, api.TryLock, 1, []int{api.Lock, api.Unlock}, yes},
		{nil, nil, api.TryLock, 1, []int{api.Lock, api.Downgrade}, no},
		{nil, nil, api.TryLock, 1, []int{api.RLock}, no},
		{nil, nil, api.TryLock, 2, []int{api.RLock}, no},
		{[]int{api.Lock}, nil, api.TryLock, 1, []int{api.Unlock}, yes},
		{[]int{api.Lock}, nil, api.TryLock, 1, []int{api.Downgrade}, no},
		{[]int{api.RLock}, nil, api.TryLock, 2, []int{api.RUnlock}, yes},
		{[]int{api.RLock}, nil, api.TryLock, 3, []int{api.RUnlock}, yes},
		{[]int{api.RLock}, nil, api.TryLock, 8, []int{api.RUnlock}, no},
		{[]int{api.RLock}, []int{api.RLock}, api.TryUpgrade, 0, []int{api.RUnlock}, yes},
		{[]int{api.RLock}, []int{api.RLock}, api.TryUpgrade, 2, []int{api.RUnlock}, yes},
		{[]int{api.RLock}, []int{api.RLock}, api.TryUpgrade, 3, []int{api.RUnlock}, yes},
		{[]int{api.RLock}, []int{api.RLock}, api.TryUpgrade, 8, []int{api.RUnlock}, no},
		{nil, []int{api.RLock}, api.TryUpgrade, 1, []int{api.RLock}, no},
		{nil, []int{api.RLock}, api.TryUpgrade, 2, []int{api.RLock}, no},
	}
	for n := range 6 {
		come := []int{api.RLock, api.RUnlock}
		l = append(l, overtaken{nil, nil, api.TryLock, n, come, yes}, overtaken{nil, []int{api.RLock}, api.TryUpgrade, n, come, yes})
	}
	return l
}

// P14.1: a try that others overtake between its steps.
func TestOvertaken(t *testing.T) {
	for _, x := range overtakens() {
		gathered(t, 2, func(c *crowd) {
			for _, op := range x.ahead {
				c.does(0, op, yes)
			}
			for _, op := range x.own {
				c.does(1, op, yes)
			}
			c.begin(1, x.op)
			c.until(1, x.at)
			for _, op := range x.by {
				c.does(0, op, yes)
			}
			c.ends(1, x.ret)
			c.leaves(0, 1)
			c.level()
		})
	}
}

// P14.2: who wants up while another one waits to write is refused, and reads on; the other one gets in when it leaves.
func TestUpgradeBehindWaiter(t *testing.T) {
	gathered(t, 2, func(x *crowd) {
		x.does(0, api.RLock, yes)
		x.calls(api.Lock, 1)
		ahead := ownOf(x.m)
		x.does(0, api.TryUpgrade, no)
		if ownOf(x.m) != ahead {
			t.Errorf("the cells were %x, and are %x", ahead, ownOf(x.m))
		}
		x.holds(reads, awaitWrite)
		x.waits(1)
		x.does(0, api.RUnlock, yes)
		x.ends(1, yes)
		x.does(1, api.Unlock, yes)
		x.free(1, 1)
	})
}

// P14.2: who wants up keeps those out that come behind its entering, if they want to write, or behind its presence, if they want to read; these get in behind it, the reader first.
func TestUpgradeAheadOfComers(t *testing.T) {
	for n := 2; n <= 6; n++ {
		gathered(t, 3, func(x *crowd) {
			x.does(0, api.RLock, yes)
			x.begin(0, api.TryUpgrade)
			x.until(0, n)
			x.calls(api.Lock, 1)
			x.until(0, 6)
			x.calls(api.RLock, 2)
			x.ends(0, yes)
			x.waits(2, 1)
			x.holds(writes, awaitWrite, awaitRead)
			x.does(0, api.Unlock, yes)
			x.waits(1)
			x.ends(2, yes)
			x.waits(1)
			x.does(2, api.RUnlock, yes)
			x.ends(1, yes)
			x.does(1, api.Unlock, yes)
			x.free(2, 2)
		})
	}
}

// P14.2: of two readers that want up, whichever way their steps come, neither gets up while the other one reads; one that is first gets up, if the other one is refused, and leaves ahead of its look.
func TestTwoUp(t *testing.T) {
	for _, n := range []int{0, 1, 2, 3, 8, 9} {
		for _, leaves := range []bool{false, true} {
			gathered(t, 2, func(x *crowd) {
				x.does(0, api.RLock, yes)
				x.does(1, api.RLock, yes)
				x.begin(0, api.TryUpgrade)
				x.until(0, n)
				x.does(1, api.TryUpgrade, no)
				if leaves {
					x.does(1, api.RUnlock, yes)
				}
				if leaves && n < 8 {
					x.ends(0, yes)
					x.holds(writes, 0)
				} else {
					x.ends(0, no)
				}
				x.leaves(0, 1)
				x.level()
			})
		}
	}
}

// P14.2: one who wants up, and saw nobody else, waits for a reader that came since; that one is refused, if it wants up, too.
func TestTwoUpLate(t *testing.T) {
	for _, n := range []int{3, 4, 5} {
		gathered(t, 2, func(x *crowd) {
			x.does(0, api.RLock, yes)
			x.begin(0, api.TryUpgrade)
			x.until(0, n)
			x.does(1, api.RLock, yes)
			x.does(1, api.TryUpgrade, no)
			x.waits(0)
			x.does(1, api.TryUpgrade, no)
			x.holds(reads, reads)
			x.waits(0)
			x.does(1, api.RUnlock, yes)
			x.ends(0, yes)
			x.does(0, api.Unlock, yes)
			x.free(2, 1)
		})
	}
}

// P14.2: one who wants up gets up, whichever of its lines another one's try comes on that is refused.
func TestUpgradeBesideTry(t *testing.T) {
	for n := range 8 {
		gathered(t, 2, func(x *crowd) {
			x.does(0, api.RLock, yes)
			x.begin(0, api.TryUpgrade)
			x.until(0, n)
			x.does(1, api.TryLock, no)
			if n > 5 {
				x.does(1, api.TryRLock, no)
			}
			x.ends(0, yes)
			x.does(0, api.Unlock, yes)
			x.free(1, 1)
		})
	}
}
