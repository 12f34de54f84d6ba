package pf_test

import (
	"testing"

	"stileman/api"
	"stileman/line"
)

// dice are numbers that look like chance, and are the same ones each time.
type dice uint64

// below answers the next one, from 0 to n - 1.
func (d *dice) below(n int) int {
	*d = *d*6364136223846793005 + 1442695040888963407
	return int(uint64(*d) >> 33 % uint64(n))
}

// choices are the operations that a task may begin that holds that; Rest: none.
func choices(hold int) []int {
	return [][]int{
		api.HoldNone:  {api.RLock, api.RLock, api.Lock, api.TryRLock, api.TryLock, api.Rest},
		api.HoldRead:  {api.RUnlock, api.RUnlock, api.TryUpgrade},
		api.HoldWrite: {api.Unlock, api.Unlock, api.Downgrade},
	}[hold]
}

// picks does so many picks by chance, and then as many more as it takes until nobody holds anything, without further requests.
func (x *crowd) picks(d *dice, many int) {
	x.t.Helper()
	for i := 0; !x.idle() || i < many; i++ {
		if i > many+600*x.n*x.n {
			x.t.Fatalf("%d tasks in the mode %d: they don't end: %+v", x.n, x.mode, x.ledger)
		}
		task := d.below(x.n)
		if !x.on[task] {
			l := choices(x.hold[task])
			op := l[d.below(len(l))]
			if i >= many {
				op = []int{api.Rest, api.RUnlock, api.Unlock}[x.hold[task]]
			}
			if op == api.Rest {
				continue
			}
			x.begin(task, op)
		}
		x.step(task)
		x.someone()
	}
}

// idle tells whether nobody is with an operation, or holds anything.
func (x *crowd) idle() bool {
	for i := range x.n {
		if x.on[i] || x.hold[i] != api.HoldNone {
			return false
		}
	}
	return true
}

// someone fails the test, if all tasks are stuck.
func (x *crowd) someone() {
	x.t.Helper()
	for i := range x.n {
		if !x.on[i] || !line.Stuck(x.runs[i]) {
			return
		}
	}
	x.t.Fatalf("%d tasks in the mode %d: all are stuck: %+v", x.n, x.mode, x.ledger)
}

// P11.2: crowds of tasks that do what comes: while one holds write no other one holds anything, writers get in by their order, readers behind a writer that is present get in behind it and ahead of the next one, all get on, and in the end the cells are alike; no cell of another one's is changed at any time.
func TestCrowds(t *testing.T) {
	d := dice(1)
	for _, n := range []int{1, 2, 3, 5, 9} {
		for range 12 {
			gathered(t, n, func(x *crowd) {
				x.picks(&d, 300)
				x.level()
			})
		}
	}
	gathered(t, api.MaxTasks, func(x *crowd) {
		x.picks(&d, 4000)
		x.level()
	})
}
