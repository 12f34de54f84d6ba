package mutex_test

import (
	"slices"
	"testing"

	"stileman/api"
	"stileman/line"
)

// dice are numbers that look like chance, and are the same ones each time.
type dice uint64

// below answers the next one, from 0 to n - 1.
func (d *dice) below(n int) int {
	*d = *d*6364136223846793005 + 1442695040888963407
	return int(uint64(*d) >> 33 % uint64(n))
}

// picks does so many picks by chance, and then as many more as it takes until nobody is in, or waits, without further requests.
func (x *crowd) picks(d *dice, many int) {
	x.t.Helper()
	for i := 0; i < many || !x.idle(); i++ {
		if i > many+600*x.n*x.n {
			x.t.Fatalf("%d tasks in the mode %d: they don't end: %+v", x.n, x.mode, x.ledger)
		}
		task := d.below(x.n)
		if x.with[task] == 0 {
			what := []int{enters, enters, tries, 0}[d.below(4)]
			if x.in == task {
				what = gives
			} else if i >= many {
				what = 0
			}
			if what == 0 {
				continue
			}
			x.begin(task, what)
		}
		x.step(task)
		x.someone()
	}
}

// idle tells whether nobody is with anything, or in.
func (x *crowd) idle() bool {
	return x.in == nobody && slices.Max(x.with) == 0
}

// someone fails the test, if all tasks are stuck.
func (x *crowd) someone() {
	x.t.Helper()
	for i := range x.n {
		if x.with[i] == 0 || !line.Stuck(x.runs[i]) {
			return
		}
	}
	x.t.Fatalf("%d tasks in the mode %d: all are stuck: %+v", x.n, x.mode, x.ledger)
}

// P12.3: crowds of tasks that do what comes: at most one is in at a time, they get in in the order of their swaps, all get on, and in the end the queue is empty; no cell of another one's is changed at any time.
func TestCrowds(t *testing.T) {
	d := dice(1)
	for _, mode := range append(modes(), 0) {
		for _, n := range []int{1, 2, 3, 5, 9} {
			for i := range 12 {
				x := gather(t, n, mode, i%8)
				x.picks(&d, 400)
				x.left()
			}
		}
		x := gather(t, api.MaxTasks, mode, 2)
		x.picks(&d, 20000)
		x.left()
	}
}

// rounds does as many rounds, in each of which each task is picked once, by that order; each enters and gives on again and again.
func (x *crowd) rounds(order []int, many int) {
	x.t.Helper()
	for range many {
		for _, task := range order {
			if x.with[task] == 0 {
				what := enters
				if x.in == task {
					what = gives
				}
				x.begin(task, what)
			}
			x.step(task)
		}
	}
}

// shuffled are the tasks by chance.
func shuffled(d *dice, n int) (l []int) {
	for i := range n {
		l = slices.Insert(l, d.below(i+1), i)
	}
	return l
}

// P12.3: in rounds in which each is picked once each gets in, again and again: from one that gives on to the next one that is in it takes no more than a wake-up, which is two steps a task, and some steps more.
func TestRounds(t *testing.T) {
	d := dice(2)
	for _, mode := range modes() {
		for _, n := range []int{1, 2, 3, 5, 9, 30} {
			for range 4 {
				inRounds(t, &d, n, mode, 3)
			}
		}
		inRounds(t, &d, api.MaxTasks, mode, 1)
	}
}

// inRounds does rounds, by an order that is chance, within which each of n tasks is to get in so often.
func inRounds(t *testing.T, d *dice, n, mode, often int) {
	t.Helper()
	x := gather(t, n, mode, 0)
	turn := 12
	if mode == api.Parked {
		turn += 2 * n
	}
	x.rounds(shuffled(d, n), often*n*turn)
	if slices.Min(x.entered) < often {
		t.Errorf("%d tasks in the mode %d got in %v times", n, mode, x.entered)
	}
}

// P12.3: whoever swaps first gets in first, in all orders of the swaps of four tasks, whatever their numbers are; while the first one doesn't give on nobody gets in.
func TestOrderOfSwaps(t *testing.T) {
	d := dice(3)
	for _, mode := range modes() {
		for range 24 {
			x := gather(t, 5, mode, 0)
			order := shuffled(&d, 5)
			for i, task := range order {
				x.begin(task, enters)
				if i == 0 {
					x.ends(task)
				}
			}
			for _, task := range slices.Backward(order[1:]) {
				x.step(task)
				x.step(task)
			}
			for _, task := range order[1:] {
				x.step(task)
			}
			x.waits(order[1:]...)
			for _, task := range order {
				if x.with[task] != 0 {
					x.ends(task)
				}
				if x.in != task {
					t.Fatalf("in the mode %d: %v: %+v", mode, order, x.ledger)
				}
				x.begin(task, gives)
				x.ends(task)
			}
			x.left()
		}
	}
}
