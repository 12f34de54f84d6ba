package wf_test

import (
	"slices"
	"testing"

	"stileman/api"
	"stileman/line"
)

// dice are numbers that look like chance, and are the same ones each time.
type dice uint64

// below answers the next one, from 0 to n - 1.
func (d *dice) below(n int) int {
	*d = *d*6364136223846793005 + 1442695040888963407
	return int(uint64(*d) >> 33 % uint64(n))
}

// choices are the operations that a task may begin that holds that; Rest: none.
func choices(hold int) []int {
	return [][]int{
		api.HoldNone:  {api.RLock, api.RLock, api.Lock, api.TryRLock, api.TryLock, api.Rest},
		api.HoldRead:  {api.RUnlock, api.RUnlock, api.RUnlock, api.TryUpgrade},
		api.HoldWrite: {api.Unlock, api.Unlock, api.Downgrade},
	}[hold]
}

// picks does so many picks by chance, and then as many more as it takes until nobody holds anything, without further requests.
func (x *crowd) picks(d *dice, many int) {
	x.t.Helper()
	for i := 0; i < many || !x.idle(); i++ {
		task := d.below(x.n)
		if i > many+600*x.n*x.n {
			x.fails(task, "they don't end")
		}
		if !x.on[task] {
			l := choices(x.hold[task])
			op := l[d.below(len(l))]
			if i >= many {
				op = leaving(x.hold[task])
			}
			if op == api.Rest {
				continue
			}
			x.begin(task, op)
		}
		x.step(task)
		x.someone()
	}
}

// idle tells whether nobody is with an operation, or holds anything.
func (x *crowd) idle() bool {
	return !slices.Contains(x.on, true) && slices.Max(x.hold) == api.HoldNone
}

// someone fails the test, if all tasks are stuck.
func (x *crowd) someone() {
	x.t.Helper()
	for i := range x.n {
		if !x.on[i] || !line.Stuck(x.runs[i]) {
			return
		}
	}
	x.fails(0, "all are stuck")
}

// P16.2: crowds of tasks that do what comes: while one holds write no other one holds anything, no reader gets in while a writer waits, writers get in in the order of their tickets, tries are refused for what is in their way alone, all get on, once no more come, and in the end all tickets are given back; no cell of another one's is changed at any time.
func TestCrowds(t *testing.T) {
	d := dice(1)
	for _, n := range []int{1, 2, 3, 5, 9} {
		for range 10 {
			gathered(t, n, func(x *crowd) {
				x.picks(&d, 400)
				x.free()
			})
		}
	}
	gathered(t, api.MaxTasks, func(x *crowd) {
		x.picks(&d, 4000)
		x.free()
	})
}

// P4: in rounds in which each task is picked once each writer gets in, again and again, though readers come, too; and where all read one of them gets in again and again.
func TestRounds(t *testing.T) {
	for _, n := range []int{1, 2, 3, 5, 9, 30} {
		for _, every := range []int{1, 2, 3} { // of so many tasks one reads
			gathered(t, n, func(x *crowd) {
				entered := make([]int, n)
				for range 40 * (n + 8) {
					for task := range n {
						if !x.on[task] {
							op := []int{api.RLock, api.Lock, api.Lock}[task%every]
							if x.hold[task] > 0 {
								op = leaving(x.hold[task])
								entered[task]++
							}
							x.begin(task, op)
						}
						x.step(task)
					}
				}
				for task, many := range entered {
					if many < 3 && (task%every > 0 || slices.Max(entered) < 3) {
						t.Errorf("%d tasks in the mode %d, of %d one that reads, got in %v times", n, x.mode, every, entered)
					}
				}
			})
		}
	}
}
