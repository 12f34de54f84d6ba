package tf_test

import (
	"slices"
	"testing"

	"stileman/api"
	"stileman/cells"
	"stileman/line"
	"stileman/place"
	"stileman/tf"
)

// crowd is a lock and its tasks, with what each one holds, as the notes tell it.
type crowd struct {
	t     *testing.T
	n     int
	mode  int
	base  uint32
	m     *cells.Memory
	runs  []*line.Run
	on    []bool // whether an operation is under way
	hold  []int
	queue []int // the tasks whose requests are registered and not admitted, in their order
}

// gather makes a lock for n tasks, none of which is with an operation.
func gather(t *testing.T, n, mode int, base uint32) *crowd {
	t.Helper()
	x := &crowd{t: t, n: n, mode: mode, base: base, m: lock(t, n, base), on: make([]bool, n), hold: make([]int, n)}
	for i := range n {
		x.runs = append(x.runs, &line.Run{Mem: x.m, Map: place.Map{N: n}, Mode: mode, Task: i})
	}
	return x
}

// begin begins the operation.
func (x *crowd) begin(task, op int) {
	x.runs[task].Frame = api.Frame{Op: op}
	x.on[task] = true
}

// step does a step of the task, and answers whether its operation is over; it holds the step against what any task may do.
func (x *crowd) step(task int) bool {
	x.t.Helper()
	r := x.runs[task]
	ahead := x.m.All()
	over := r.Step(tf.Lines)
	for _, n := range r.Notes {
		x.noted(task, n)
	}
	x.changed(task, ahead)
	if over {
		x.on[task] = false
	}
	return over
}

// noted keeps what the note tells, and fails the test, if one is admitted that may not be.
func (x *crowd) noted(task int, n api.Note) {
	x.t.Helper()
	if n.Task != task || n.Op != 0 {
		x.t.Fatalf("the task %d notes %+v", task, n)
	}
	switch n.What {
	case api.NReg:
		x.queue = append(x.queue, task)
		x.hold[task] = -n.Arg
	case api.NAdmit:
		if len(x.queue) == 0 || x.queue[0] != task {
			x.t.Fatalf("the task %d is admitted, and %v were registered", task, x.queue)
		}
		x.queue = x.queue[1:]
		x.hold[task] = -x.hold[task]
	case api.NRelease, api.NLeave:
		x.hold[task] = api.HoldNone
	case api.NUp:
		x.hold[task] = api.HoldWrite
	case api.NDown:
		x.hold[task] = api.HoldRead
	}
	x.exclusive()
}

// exclusive fails the test, if a task holds write, and another one holds anything.
func (x *crowd) exclusive() {
	x.t.Helper()
	holders, writers := 0, 0
	for _, h := range x.hold {
		if h > 0 {
			holders++
		}
		if h == api.HoldWrite {
			writers++
		}
	}
	if writers > 0 && holders > 1 {
		x.t.Fatalf("the tasks hold %v", x.hold)
	}
}

// changed fails the test, if the step has changed a cell that isn't the run's access, or one that isn't the lock's, a watch of the task's, or a permit.
func (x *crowd) changed(task int, ahead []uint32) {
	x.t.Helper()
	a := x.runs[task].Access
	for c, v := range x.m.All() {
		if v == ahead[c] {
			continue
		}
		if a.Cell != c || a.Kind < api.AStore || c >= 3 && c != 8+2*x.n+task && c < 8+3*x.n {
			x.t.Fatalf("the task %d, of %d: %+v changed the cell %d", task, x.n, a, c)
		}
	}
}

// does does the steps of the task, until its operation is over, and fails the test, unless it ends with ret.
func (x *crowd) does(task, op, ret int) {
	x.t.Helper()
	x.begin(task, op)
	x.ends(task, ret)
}

// ends does the rest of the task's operation.
func (x *crowd) ends(task, ret int) {
	x.t.Helper()
	for range 400 {
		if x.step(task) {
			if got := x.runs[task].Frame.Ret; got != ret {
				x.t.Fatalf("the task %d: the operation %d ends with %d", task, x.runs[task].Frame.Op, got)
			}
			return
		}
	}
	x.t.Fatalf("the task %d doesn't end: %+v", task, x.runs[task].Frame)
}

// waits does steps of the task, and fails the test, if its operation ends by them.
func (x *crowd) waits(tasks ...int) {
	x.t.Helper()
	for range 12 {
		for _, task := range tasks {
			if x.step(task) {
				x.t.Fatalf("the task %d doesn't wait: %+v", task, x.runs[task].Frame)
			}
		}
	}
}

// holds fails the test, unless the tasks hold that: a negative one is waited for.
func (x *crowd) holds(want ...int) {
	x.t.Helper()
	if !slices.Equal(x.hold, want) {
		x.t.Fatalf("in the mode %d, from %x: the tasks hold %v, want %v", x.mode, x.base, x.hold, want)
	}
}

// free fails the test, unless nobody holds or waits for anything, and so many tickets were given and given back.
func (x *crowd) free(tickets uint32) {
	x.t.Helper()
	x.holds(make([]int, x.n)...)
	then := x.base + tickets
	if ownOf(x.m) != (own{then, then, then}) {
		x.t.Fatalf("in the mode %d, from %x: the cells are %x", x.mode, x.base, ownOf(x.m))
	}
}

// gathered calls do with locks for n tasks, in both modes, wherever tickets begin to count.
func gathered(t *testing.T, n int, do func(x *crowd)) {
	t.Helper()
	for _, mode := range modes() {
		for _, base := range append(bases(), top-1) {
			do(gather(t, n, mode, base))
		}
	}
}
