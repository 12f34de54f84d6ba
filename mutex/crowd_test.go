package mutex_test

import (
	"slices"
	"testing"

	"stileman/api"
	"stileman/cells"
	"stileman/line"
	"stileman/place"
)

// nobody is no task.
const nobody = -1

// ledger is who is in, and who waits for that, as the calls answer it.
type ledger struct {
	in      int   // the task that is in, or nobody
	queue   []int // those that wait for that, in the order of their swaps
	entered []int // how often each task got in
}

// crowd is a queue and its tasks.
type crowd struct {
	ledger
	t             *testing.T
	n, mode, tail int
	m             *cells.Memory
	runs          []line.Run
	with          []int // what each task is with: one of the calls, or 0
}

// gather makes a queue for n tasks, in the cell tail, that nobody is in; the lock's own cells beside it are marked.
func gather(t *testing.T, n, mode, tail int) *crowd {
	t.Helper()
	l := make([]uint32, 8+4*n)
	copy(l, marked(8))
	l[tail] = 0
	x := &crowd{t: t, n: n, mode: mode, tail: tail, ledger: ledger{in: nobody, entered: make([]int, n)}, with: make([]int, n)}
	x.m, _ = cells.From(l...)
	for i := range n {
		x.runs = append(x.runs, line.Run{Mem: x.m, Map: place.Map{N: n}, Mode: mode, Task: i})
	}
	return x
}

// begin lets the task begin what it does by that call; who gives on, and who tries, does so from the line 6 on.
func (x *crowd) begin(task, what int) {
	x.with[task] = what
	x.runs[task].Frame = api.Frame{Op: what, Line: map[int]int{enters: 0, gives: 6, tries: 6}[what]}
}

// step does a step of the task, and tells whether what it is with is over; it holds the step against what any task may do.
func (x *crowd) step(task int) bool {
	x.t.Helper()
	r := &x.runs[task]
	ahead, what := x.m.All(), x.with[task]
	c := call{what: what, tail: x.tail, class: api.HoldWrite, a: 6, notes: []int{api.NLeave, api.NPass}}
	var want []api.Note
	over := r.Step(func(r *line.Run) {
		swaps := what == enters && r.Frame.Line == 2
		done, in := c.does(r)
		if swaps {
			x.queue = append(slices.Clone(x.queue), task)
			want = []api.Note{{Task: task, What: api.NReg, Arg: api.HoldWrite}}
		}
		if !done {
			return
		}
		if what == gives {
			want = []api.Note{{Task: task, What: api.NLeave}, {Task: task, What: api.NPass}}
		}
		r.End(what != tries || in)
		x.answered(task, what, in)
	})
	if !slices.Equal(r.Notes, want) {
		x.t.Fatalf("%d tasks in the mode %d: the task %d notes %+v, want %+v", x.n, x.mode, task, r.Notes, want)
	}
	x.changed(task, ahead)
	if over {
		x.with[task] = 0
	}
	return over
}

// answered keeps what a call has answered, and fails the test, if it may not: who gets in finds nobody in, and is the first one of those that wait; who tries gets in, if nobody is in or waits.
func (x *crowd) answered(task, what int, in bool) {
	x.t.Helper()
	empty := x.in == nobody && len(x.queue) == 0
	switch {
	case what == gives && x.in == task:
		x.in = nobody
	case what == enters && x.in == nobody && x.queue[0] == task:
		x.queue = x.queue[1:]
		x.in = task
		x.entered[task]++
	case what == tries && in && empty:
		x.in = task
		x.entered[task]++
	case what == tries && !in && !empty:
	default:
		x.t.Fatalf("%d tasks in the mode %d: the task %d ends %d, %v: %+v", x.n, x.mode, task, what, in, x.ledger)
	}
}

// changed fails the test, if the step has changed a cell that isn't the run's access, or that isn't the task's to change; or if the tail doesn't name the last one of the queue.
func (x *crowd) changed(task int, ahead []uint32) {
	x.t.Helper()
	a, n := x.runs[task].Access, x.n
	for c, v := range x.m.All() {
		others := c >= 8+2*n && c < 8+3*n && c != 8+2*n+task || c < 8 && c != x.tail
		if v != ahead[c] && (others || a.Cell != c || a.Kind < api.AStore) {
			x.t.Fatalf("the task %d, of %d: %+v changed the cell %d", task, n, a, c)
		}
	}
	last := x.in + 1
	if len(x.queue) > 0 {
		last = x.queue[len(x.queue)-1] + 1
	}
	if got := x.m.Load(x.tail); got != uint32(last) {
		x.t.Fatalf("%d tasks in the mode %d: behind a step of the task %d the tail is %d: %+v", n, x.mode, task, got, x.ledger)
	}
}

// does does the steps of the task, from the call's first one on, until it is over, and fails the test, unless each did that.
func (x *crowd) does(task, what int, steps ...string) {
	x.t.Helper()
	x.begin(task, what)
	x.goes(task, steps...)
	x.over(task)
}

// goes does as many steps of the task, and fails the test, unless each did that.
func (x *crowd) goes(task int, steps ...string) {
	x.t.Helper()
	for i, want := range steps {
		if x.with[task] == 0 {
			x.t.Fatalf("in the mode %d: the task %d is through ahead of the step %d, %s", x.mode, task, i, want)
		}
		x.step(task)
		if got := text(&x.runs[task]); got != want {
			x.t.Fatalf("in the mode %d: the task %d, the step %d: %s, want %s", x.mode, task, i, got, want)
		}
	}
}

// over fails the test, unless the task is through.
func (x *crowd) over(task int) {
	x.t.Helper()
	if x.with[task] != 0 {
		x.t.Fatalf("in the mode %d: the task %d isn't through: %+v", x.mode, task, x.runs[task].Frame)
	}
}

// ends does the rest of the task's steps.
func (x *crowd) ends(task int) {
	x.t.Helper()
	for range 6 * (x.n + 2) {
		if x.step(task) {
			return
		}
	}
	x.t.Fatalf("in the mode %d: the task %d doesn't end: %+v", x.mode, task, x.runs[task].Frame)
}

// waits does steps of the tasks by turns, and fails the test, if one gets through by them.
func (x *crowd) waits(tasks ...int) {
	x.t.Helper()
	for range 3*x.n + 12 {
		for _, task := range tasks {
			if x.step(task) {
				x.t.Fatalf("in the mode %d: the task %d doesn't wait: %+v", x.mode, task, x.runs[task].Frame)
			}
		}
	}
}

// left fails the test, unless nobody is in, or waits, or watches a cell.
func (x *crowd) left() {
	x.t.Helper()
	if x.in != nobody || len(x.queue) != 0 || x.m.Load(x.tail) != 0 {
		x.t.Fatalf("%d tasks in the mode %d: %+v, and the tail is %d", x.n, x.mode, x.ledger, x.m.Load(x.tail))
	}
	for i := range x.n {
		if v := x.m.Load(8 + 2*x.n + i); v != 0 {
			x.t.Fatalf("%d tasks in the mode %d: the watch of the task %d is %d", x.n, x.mode, i, v)
		}
	}
}
