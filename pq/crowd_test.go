package pq_test

import (
	"slices"
	"testing"

	"stileman/api"
	"stileman/cells"
	"stileman/line"
	"stileman/place"
	"stileman/pq"
)

// crowd is a lock and its tasks, with what each one holds and asks for, as the notes tell it.
type crowd struct {
	ledger
	t    *testing.T
	n    int
	mode int
	base uint32
	m    *cells.Memory
	runs []line.Run
	on   []bool // whether an operation is under way
}

// gather makes a lock for n tasks, none of which is with an operation.
func gather(t *testing.T, n, mode int, base uint32) *crowd {
	t.Helper()
	x := &crowd{ledger: opened(n), t: t, n: n, mode: mode, base: base, m: lock(t, n, base), on: make([]bool, n)}
	for i := range n {
		x.runs = append(x.runs, line.Run{Mem: x.m, Map: place.Map{N: n}, Mode: mode, Task: i})
	}
	return x
}

// gathered calls do with locks for n tasks, in both modes, wherever readers and phases begin to count.
func gathered(t *testing.T, n int, do func(x *crowd)) {
	t.Helper()
	for _, mode := range modes() {
		for _, base := range bases() {
			do(gather(t, n, mode, base))
		}
	}
}

// fails fails the test.
func (x *crowd) fails(task int, why string) {
	x.t.Helper()
	x.t.Fatalf("%d tasks in the mode %d, from %x: the task %d: %s: %+v, %+v, the cells are %x", x.n, x.mode, x.base, task, why, x.runs[task], x.ledger, x.m.All())
}

// begin begins the operation.
func (x *crowd) begin(task, op int) {
	x.runs[task].Frame = api.Frame{Op: op}
	x.on[task], x.refused[task] = true, false
}

// step does a step of the task, and answers whether its operation is over; it holds the step against what any task may do.
func (x *crowd) step(task int) bool {
	x.t.Helper()
	r := &x.runs[task]
	ahead := x.m.All()
	over := r.Step(pq.Lines)
	for _, n := range r.Notes {
		if wrong := x.noted(task, r.Frame.Op, n); wrong != "" {
			x.fails(task, wrong)
		}
	}
	x.changed(task, ahead)
	x.tallies(task)
	if over {
		x.over(task)
	}
	return over
}

// over lets the task be with no operation, and fails the test, if its result isn't what it holds then, or it stands in the queue, and doesn't write.
func (x *crowd) over(task int) {
	x.t.Helper()
	x.on[task] = false
	f := x.runs[task].Frame
	want := map[int]int{
		api.RLock: api.HoldRead, api.TryRLock: api.HoldRead, api.Downgrade: api.HoldRead,
		api.Lock: api.HoldWrite, api.TryLock: api.HoldWrite, api.TryUpgrade: api.HoldWrite,
	}[f.Op]
	if f.Ret == no {
		// A refused try leaves what was held.
		want = map[int]int{api.TryUpgrade: api.HoldRead}[f.Op]
	}
	queued := slices.Contains(x.queue, task)
	if x.hold[task] != want || x.asks[task] != 0 || x.refused[task] != (f.Ret == no) || f.Wait != (api.Wait{}) || queued != (want == api.HoldWrite) {
		x.fails(task, "it ends otherwise than it holds")
	}
}

// changed fails the test, if the step has changed a cell that isn't the run's access, or that isn't the task's to change.
func (x *crowd) changed(task int, ahead []uint32) {
	x.t.Helper()
	a := x.runs[task].Access
	for c, v := range x.m.All() {
		foreign := c > 3 && c < 8 || c >= 8+2*x.n && c < 8+3*x.n && c != 8+2*x.n+task
		if v != ahead[c] && (foreign || a.Cell != c || a.Kind < api.AStore) {
			x.fails(task, "it changed another one's cell, or more than one")
		}
	}
}

// tallies fails the test, if the tail doesn't name the last one of the queue, or rin's bits not the presence, or rin isn't ahead of rout by those that are inside, or wait to be.
func (x *crowd) tallies(task int) {
	x.t.Helper()
	w, want := ownOf(x.m), uint32(0)
	if len(x.queue) > 0 {
		want = uint32(x.queue[len(x.queue)-1]) + 1
	}
	if w[2] != want {
		x.fails(task, "the tail isn't the last one in the queue")
	}
	want = uint32(256 * x.readers(nobody))
	if x.present != nobody {
		want += 2 + w[3]%2
		// Who is up is counted as a reader until it has counted itself out.
		if f := x.runs[x.present].Frame; f.Op == api.TryUpgrade && x.hold[x.present] == api.HoldWrite && f.Ret == goes {
			want += 256
		}
	}
	if w[0]-w[1] != want {
		x.fails(task, "rin isn't ahead of rout by those that are inside")
	}
}

// does does the steps of the task, until its operation is over, and fails the test, unless it ends with ret.
func (x *crowd) does(task, op, ret int) {
	x.t.Helper()
	x.begin(task, op)
	x.ends(task, ret)
}

// ends does the rest of the task's operation.
func (x *crowd) ends(task, ret int) {
	x.t.Helper()
	for range 600 {
		if x.step(task) {
			if x.runs[task].Frame.Ret != ret {
				x.fails(task, "it ends with another result")
			}
			return
		}
	}
	x.fails(task, "it doesn't end")
}

// until does steps of the task until it is at that line of its operation, with the wake-ups ahead of it through.
func (x *crowd) until(task, n int) {
	x.t.Helper()
	for range 600 {
		if f := x.runs[task].Frame; f.Line == n && !f.Wake.On {
			return
		}
		if x.step(task) {
			break
		}
	}
	x.fails(task, "it doesn't come to the line")
}

// waits does steps of the tasks by turns, and fails the test, if an operation ends by them.
func (x *crowd) waits(tasks ...int) {
	x.t.Helper()
	for range 3*x.n + 12 {
		for _, task := range tasks {
			if x.step(task) {
				x.fails(task, "it doesn't wait")
			}
		}
	}
}

// calls lets each of the tasks begin the operation, one behind the other, and fails the test, unless they wait.
func (x *crowd) calls(op int, tasks ...int) {
	x.t.Helper()
	for _, task := range tasks {
		x.begin(task, op)
		x.waits(task)
	}
	x.waits(tasks...)
}

// busy are the tasks that are with an operation, without those.
func (x *crowd) busy(without ...int) (l []int) {
	for i, on := range x.on {
		if on && !slices.Contains(without, i) {
			l = append(l, i)
		}
	}
	return l
}

// leaves lets each of the tasks that holds something leave.
func (x *crowd) leaves(tasks ...int) {
	x.t.Helper()
	for _, task := range tasks {
		if op := leaving(x.hold[task]); op != api.Rest {
			x.does(task, op, yes)
		}
	}
}

// leaving is the operation by which a task leaves that holds that; Rest: none.
func leaving(hold int) int {
	return []int{api.Rest, api.RUnlock, api.Unlock}[hold]
}

// holds fails the test, unless the tasks hold that; what one that holds nothing asks for is told below 0.
func (x *crowd) holds(want ...int) {
	x.t.Helper()
	got := slices.Clone(x.hold)
	for i := range got {
		if got[i] == api.HoldNone {
			got[i] = -x.asks[i]
		}
	}
	if !slices.Equal(got, want) {
		x.t.Fatalf("in the mode %d, from %x: the tasks hold %v, want %v", x.mode, x.base, got, want)
	}
}

// free fails the test, unless nobody holds or waits for anything, and so many readers and phases were counted.
func (x *crowd) free(readers, phases uint32) {
	x.t.Helper()
	x.level()
	if ownOf(x.m) != counted(x.base, readers, phases) {
		x.fails(0, "another number of readers, or phases, was counted")
	}
}

// level fails the test, unless nobody holds or waits for anything, or watches a cell: as many readers came as went, no writer is present, and the queue is empty.
func (x *crowd) level() {
	x.t.Helper()
	x.holds(make([]int, x.n)...)
	l := x.m.All()
	if l[0] != l[1] || l[0]%256 != 0 || l[2] != 0 || !slices.Equal(l[4:8], make([]uint32, 4)) || !slices.Equal(l[8+2*x.n:8+3*x.n], make([]uint32, x.n)) {
		x.fails(0, "the lock isn't free")
	}
}
