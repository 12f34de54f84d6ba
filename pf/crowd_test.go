package pf_test

import (
	"slices"
	"testing"

	"stileman/api"
	"stileman/cells"
	"stileman/line"
	"stileman/pf"
	"stileman/place"
)

// crowd is a lock and its tasks, with what each one holds and asks for, as the notes tell it.
type crowd struct {
	ledger
	t    *testing.T
	n    int
	mode int
	base uint32
	m    *cells.Memory
	runs []line.Run
	on   []bool // whether an operation is under way
}

// gather makes a lock for n tasks, none of which is with an operation.
func gather(t *testing.T, n, mode int, base uint32) *crowd {
	t.Helper()
	x := &crowd{ledger: opened(n), t: t, n: n, mode: mode, base: base, m: lock(t, n, base), on: make([]bool, n)}
	for i := range n {
		x.runs = append(x.runs, line.Run{Mem: x.m, Map: place.Map{N: n}, Mode: mode, Task: i})
	}
	return x
}

// begin begins the operation.
func (x *crowd) begin(task, op int) {
	x.runs[task].Frame = api.Frame{Op: op}
	x.on[task] = true
}

// step does a step of the task, and answers whether its operation is over; it holds the step against what any task may do.
func (x *crowd) step(task int) bool {
	x.t.Helper()
	r := &x.runs[task]
	ahead := x.m.All()
	over := r.Step(pf.Lines)
	for _, n := range r.Notes {
		if wrong := x.noted(task, n); wrong != "" {
			x.t.Fatalf("%d tasks in the mode %d, from %x: the task %d notes %+v: %s: %+v", x.n, x.mode, x.base, task, n, wrong, x.ledger)
		}
	}
	x.changed(task, ahead)
	if over {
		x.over(task)
	}
	return over
}

// over lets the task be with no operation, and fails the test, if its result isn't what it holds then.
func (x *crowd) over(task int) {
	x.t.Helper()
	x.on[task] = false
	f := x.runs[task].Frame
	want := map[int]int{
		api.RLock: api.HoldRead, api.TryRLock: api.HoldRead, api.Downgrade: api.HoldRead,
		api.Lock: api.HoldWrite, api.TryLock: api.HoldWrite, api.TryUpgrade: api.HoldWrite,
	}[f.Op]
	if f.Ret == no {
		// A refused try leaves what was held.
		want = map[int]int{api.TryUpgrade: api.HoldRead}[f.Op]
	}
	if x.hold[task] != want || x.asks[task] != 0 || f.Wait != (api.Wait{}) {
		x.t.Fatalf("%d tasks in the mode %d: the task %d ends %+v, and %+v", x.n, x.mode, task, f, x.ledger)
	}
}

// changed fails the test, if the step has changed a cell that isn't the run's access, or one that isn't the lock's, a watch of the task's, or a permit.
func (x *crowd) changed(task int, ahead []uint32) {
	x.t.Helper()
	a := x.runs[task].Access
	for c, v := range x.m.All() {
		if v == ahead[c] {
			continue
		}
		if a.Cell != c || a.Kind < api.AStore || c >= owned && c != 8+2*x.n+task && c < 8+3*x.n {
			x.t.Fatalf("the task %d, of %d: %+v changed the cell %d", task, x.n, a, c)
		}
	}
}

// does does the steps of the task, until its operation is over, and fails the test, unless it ends with ret.
func (x *crowd) does(task, op, ret int) {
	x.t.Helper()
	x.begin(task, op)
	x.ends(task, ret)
}

// ends does the rest of the task's operation.
func (x *crowd) ends(task, ret int) {
	x.t.Helper()
	for range 600 {
		if x.step(task) {
			if got := x.runs[task].Frame.Ret; got != ret {
				x.t.Fatalf("the task %d: the operation %d ends with %d", task, x.runs[task].Frame.Op, got)
			}
			return
		}
	}
	x.t.Fatalf("the task %d doesn't end: %+v", task, x.runs[task].Frame)
}

// until does steps of the task until it is at that line of its operation, with the wake-ups ahead of it through.
func (x *crowd) until(task, n int) {
	x.t.Helper()
	for range 600 {
		if f := x.runs[task].Frame; f.Line == n && !f.Wake.On {
			return
		}
		if x.step(task) {
			break
		}
	}
	x.t.Fatalf("the task %d doesn't come to the line %d: %+v", task, n, x.runs[task].Frame)
}

// waits does steps of the tasks by turns, and fails the test, if an operation ends by them.
func (x *crowd) waits(tasks ...int) {
	x.t.Helper()
	for range 12 {
		for _, task := range tasks {
			if x.step(task) {
				x.t.Fatalf("the task %d doesn't wait: %+v", task, x.runs[task].Frame)
			}
		}
	}
}

// busy are the tasks that are with an operation, without those.
func (x *crowd) busy(without ...int) (l []int) {
	for i, on := range x.on {
		if on && !slices.Contains(without, i) {
			l = append(l, i)
		}
	}
	return l
}

// holds fails the test, unless the tasks hold that; what one that holds nothing asks for is told below 0.
func (x *crowd) holds(want ...int) {
	x.t.Helper()
	got := slices.Clone(x.hold)
	for i := range got {
		if got[i] == api.HoldNone {
			got[i] = -x.asks[i]
		}
	}
	if !slices.Equal(got, want) {
		x.t.Fatalf("in the mode %d, from %x: the tasks hold %v, want %v", x.mode, x.base, got, want)
	}
}

// free fails the test, unless nobody holds or waits for anything, and so many readers, tickets and phases were counted.
func (x *crowd) free(readers, tickets, phases uint32) {
	x.t.Helper()
	x.holds(make([]int, x.n)...)
	if ownOf(x.m) != counted(x.base, readers, tickets, phases) {
		x.t.Fatalf("in the mode %d, from %x: the cells are %x", x.mode, x.base, ownOf(x.m))
	}
}

// level fails the test, unless as many readers came as went, no writer is present, and as many tickets were given back as given.
func (x *crowd) level() {
	x.t.Helper()
	if w := ownOf(x.m); w[0] != w[1] || w[2] != w[3] || w[0]%256 != 0 {
		x.t.Fatalf("%d tasks in the mode %d, from %x: the cells are %x", x.n, x.mode, x.base, w)
	}
}

// gathered calls do with locks for n tasks, in both modes, wherever tickets and phases begin to count.
func gathered(t *testing.T, n int, do func(x *crowd)) {
	t.Helper()
	for _, mode := range modes() {
		for _, base := range append(bases(), top-1) {
			do(gather(t, n, mode, base))
		}
	}
}
