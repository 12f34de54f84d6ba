package wf_test

import (
	"slices"
	"testing"

	"stileman/api"
	"stileman/cells"
	"stileman/line"
	"stileman/place"
	"stileman/wf"
)

// crowd is a lock and its tasks, with what each one holds and asks for, as the notes tell it.
type crowd struct {
	ledger
	t    *testing.T
	n    int
	mode int
	base uint32 // where tickets begin to count
	m    *cells.Memory
	runs []line.Run
	on   []bool // whether an operation is under way
}

// gather makes a lock for n tasks, none of which is with an operation.
func gather(t *testing.T, n, mode int, base uint32) *crowd {
	t.Helper()
	x := &crowd{ledger: opened(n), t: t, n: n, mode: mode, base: base, m: lock(t, n, base), on: make([]bool, n)}
	for i := range n {
		x.runs = append(x.runs, line.Run{Mem: x.m, Map: place.Map{N: n}, Mode: mode, Task: i})
	}
	return x
}

// gathered calls do with locks for n tasks, in both modes, and from each base.
func gathered(t *testing.T, n int, do func(x *crowd)) {
	t.Helper()
	for _, mode := range modes() {
		for _, base := range bases() {
			do(gather(t, n, mode, base))
		}
	}
}

// fails fails the test.
func (x *crowd) fails(task int, why string) {
	x.t.Helper()
	x.t.Fatalf("%d tasks in the mode %d, from %d: the task %d: %s: %+v, %+v, the cells are %x", x.n, x.mode, x.base, task, why, x.runs[task], x.ledger, x.m.All())
}

// begin begins the operation.
func (x *crowd) begin(task, op int) {
	x.runs[task].Frame = api.Frame{Op: op}
	x.on[task], x.refused[task] = true, false
}

// step does a step of the task, and answers whether its operation is over; it holds the step against what any task may do.
func (x *crowd) step(task int) bool {
	x.t.Helper()
	r := &x.runs[task]
	ahead := x.m.All()
	over := r.Step(wf.Lines)
	for _, n := range r.Notes {
		if wrong := x.noted(task, r.Frame.Op, n); wrong != "" {
			x.fails(task, wrong)
		}
	}
	x.changed(task, ahead)
	if x.m.Load(0) != x.word(x.base) {
		x.fails(task, "the word doesn't count the readers that are in, and the tickets that were drawn and given back")
	}
	if over {
		x.over(task)
	}
	return over
}

// over lets the task be with no operation, and fails the test, if its result isn't what it holds then.
func (x *crowd) over(task int) {
	x.t.Helper()
	x.on[task] = false
	f := x.runs[task].Frame
	want := map[int]int{
		api.RLock: api.HoldRead, api.TryRLock: api.HoldRead, api.Downgrade: api.HoldRead,
		api.Lock: api.HoldWrite, api.TryLock: api.HoldWrite, api.TryUpgrade: api.HoldWrite,
	}[f.Op]
	if f.Ret == no {
		// A refused try leaves what was held.
		want = map[int]int{api.TryUpgrade: api.HoldRead}[f.Op]
	}
	if x.hold[task] != want || x.asks[task] != 0 || x.refused[task] != (f.Ret == no) || x.leaving[task] || f.Wait != (api.Wait{}) {
		x.fails(task, "it ends otherwise than it holds")
	}
}

// changed fails the test, if the step has changed a cell that isn't the run's access, or that isn't the lock's, the task's watch, or a permit.
func (x *crowd) changed(task int, ahead []uint32) {
	x.t.Helper()
	a := x.runs[task].Access
	for c, v := range x.m.All() {
		foreign := c > 0 && c != 8+2*x.n+task && c < 8+3*x.n
		if v != ahead[c] && (foreign || a.Cell != c || a.Kind < api.AStore) {
			x.fails(task, "it changed another one's cell, or more than one")
		}
	}
}

// does does the steps of the task, until its operation is over, and fails the test, unless it ends with ret.
func (x *crowd) does(task, op, ret int) {
	x.t.Helper()
	x.begin(task, op)
	x.ends(task, ret)
}

// ends does the rest of the task's operation.
func (x *crowd) ends(task, ret int) {
	x.t.Helper()
	for range 400 {
		if x.step(task) {
			if x.runs[task].Frame.Ret != ret {
				x.fails(task, "it ends with another result")
			}
			return
		}
	}
	x.fails(task, "it doesn't end")
}

// steps does so many steps of the task, and fails the test, if its operation ends by them.
func (x *crowd) steps(task, many int) {
	x.t.Helper()
	for range many {
		if x.step(task) {
			x.fails(task, "it ends too early")
		}
	}
}

// waits does steps of the tasks by turns, and fails the test, if an operation ends by them.
func (x *crowd) waits(tasks ...int) {
	x.t.Helper()
	for range 3*x.n + 12 {
		for _, task := range tasks {
			x.steps(task, 1)
		}
	}
}

// calls lets each of the tasks begin the operation, one behind the other, and fails the test, unless they wait.
func (x *crowd) calls(op int, tasks ...int) {
	x.t.Helper()
	for _, task := range tasks {
		x.begin(task, op)
		x.waits(task)
	}
	x.waits(tasks...)
}

// leaves lets each of the tasks that holds something leave.
func (x *crowd) leaves(tasks ...int) {
	x.t.Helper()
	for _, task := range tasks {
		if op := leaving(x.hold[task]); op != api.Rest {
			x.does(task, op, yes)
		}
	}
}

// leaving is the operation by which a task leaves that holds that; Rest: none.
func leaving(hold int) int {
	return []int{api.Rest, api.RUnlock, api.Unlock}[hold]
}

// holds fails the test, unless the tasks hold that; what one that holds nothing asks for is told below 0.
func (x *crowd) holds(want ...int) {
	x.t.Helper()
	got := slices.Clone(x.hold)
	for i := range got {
		if got[i] == api.HoldNone {
			got[i] = -x.asks[i]
		}
	}
	if !slices.Equal(got, want) {
		x.t.Fatalf("in the mode %d: the tasks hold %v, want %v", x.mode, got, want)
	}
}

// free fails the test, unless nobody holds or waits for anything, or watches a cell, and all tickets are given back; a permit that nobody took may be left.
func (x *crowd) free() {
	x.t.Helper()
	x.holds(make([]int, x.n)...)
	l := x.m.All()[:8+3*x.n]
	if _, _, inside := fields(l[0]); !isFree(l[0]) || inside != 0 || x.drawn != x.back {
		x.fails(0, "the lock isn't free")
	}
	if l = l[1:]; !slices.Equal(l, make([]uint32, len(l))) {
		x.fails(0, "another cell was changed, or is watched yet")
	}
}
