package pq_test

import (
	"slices"
	"testing"

	"stileman/api"
	"stileman/line"
)

// dice are numbers that look like chance, and are the same ones each time.
type dice uint64

// below answers the next one, from 0 to n - 1.
func (d *dice) below(n int) int {
	*d = *d*6364136223846793005 + 1442695040888963407
	return int(uint64(*d) >> 33 % uint64(n))
}

// choices are the operations that a task may begin that holds that; Rest: none.
func choices(hold int) []int {
	return [][]int{
		api.HoldNone:  {api.RLock, api.RLock, api.Lock, api.TryRLock, api.TryLock, api.Rest},
		api.HoldRead:  {api.RUnlock, api.RUnlock, api.TryUpgrade},
		api.HoldWrite: {api.Unlock, api.Unlock, api.Downgrade},
	}[hold]
}

// picks does so many picks by chance, and then as many more as it takes until nobody holds anything, without further requests.
func (x *crowd) picks(d *dice, many int) {
	x.t.Helper()
	for i := 0; i < many || !x.idle(); i++ {
		task := d.below(x.n)
		if i > many+600*x.n*x.n {
			x.fails(task, "they don't end")
		}
		if !x.on[task] {
			l := choices(x.hold[task])
			op := l[d.below(len(l))]
			if i >= many {
				op = leaving(x.hold[task])
			}
			if op == api.Rest {
				continue
			}
			x.begin(task, op)
		}
		x.step(task)
		x.someone()
	}
}

// idle tells whether nobody is with an operation, or holds anything.
func (x *crowd) idle() bool {
	return !slices.Contains(x.on, true) && slices.Max(x.hold) == api.HoldNone
}

// someone fails the test, if all tasks are stuck.
func (x *crowd) someone() {
	x.t.Helper()
	for i := range x.n {
		if !x.on[i] || !line.Stuck(x.runs[i]) {
			return
		}
	}
	x.fails(0, "all are stuck")
}

// P14.2: crowds of tasks that do what comes: while one holds write no other one holds anything, writers get in by their order, readers behind a writer that is present get in behind it and ahead of the next one, tries are refused for what is in their way alone, all get on, and in the end the lock is free; no cell of another one's is changed at any time.
func TestCrowds(t *testing.T) {
	d := dice(1)
	for _, n := range []int{1, 2, 3, 5, 9} {
		for range 10 {
			gathered(t, n, func(x *crowd) {
				x.picks(&d, 400)
				x.level()
			})
		}
	}
	gathered(t, api.MaxTasks, func(x *crowd) {
		x.picks(&d, 5000)
		x.level()
	})
}

// P14.2: in rounds in which each task is picked once each gets in, again and again, whatever it asks for.
func TestRounds(t *testing.T) {
	for _, n := range []int{1, 2, 3, 5, 9, 20} {
		for _, mode := range modes() {
			for _, base := range []uint32{0, top} {
				gather(t, n, mode, base).rounds()
			}
		}
	}
}

// rounds does rounds in which each task is picked once, and fails the test, unless each gets in again and again.
func (x *crowd) rounds() {
	x.t.Helper()
	entered := make([]int, x.n)
	turn := 24 + 4*x.n // what one needs from being first to giving the queue on, and its wake-ups
	for range 3 * x.n * turn {
		for task := range x.n {
			if !x.on[task] {
				op := []int{api.RLock, api.Lock}[task%2]
				if x.hold[task] > 0 {
					op = leaving(x.hold[task])
					entered[task]++
				}
				x.begin(task, op)
			}
			x.step(task)
		}
	}
	if slices.Min(entered) < 3 {
		x.t.Errorf("%d tasks in the mode %d, from %x, got in %v times", x.n, x.mode, x.base, entered)
	}
}
