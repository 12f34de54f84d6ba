package suite_test

import (
	"slices"
	"testing"

	"stileman/api"
	"stileman/cells"
	"stileman/line"
	"stileman/place"
	"stileman/suite"
)

// crowd is a lock of a kind, and its tasks.
type crowd struct {
	t     *testing.T
	kind  int
	lines func(r *line.Run)
	runs  []line.Run
	hold  []int // what each task holds, as At and Behind tell it
	noted []int // what each task holds, as its notes tell it
	asks  []int // the class of each task's request that was noted last
	on    []bool
}

// gather makes a lock for n tasks that hold nothing, none of which is with an operation.
func gather(t *testing.T, kind, mode, n int, base uint32) *crowd {
	t.Helper()
	words, _ := place.First(kind, n, base)
	m, _ := cells.From(words...)
	x := &crowd{t: t, kind: kind, lines: linesOf(t, kind), hold: make([]int, n), noted: make([]int, n), asks: make([]int, n), on: make([]bool, n)}
	for i := range n {
		x.runs = append(x.runs, line.Run{Mem: m, Map: place.Map{N: n}, Mode: mode, Task: i})
	}
	return x
}

// gathered calls do with locks of all kinds for n tasks, in both modes, and from some bases.
func gathered(t *testing.T, n int, do func(x *crowd)) {
	t.Helper()
	for _, kind := range kinds() {
		for _, mode := range modes() {
			for _, base := range []uint32{0, 5, 0xffffffff} {
				do(gather(t, kind, mode, n, base))
			}
		}
	}
}

// begin begins the operation, if the task may, and tells whether it may.
func (x *crowd) begin(task, op int) bool {
	if !suite.May(op, x.hold[task]) {
		return false
	}
	x.hold[task] = suite.At(op, x.hold[task])
	x.runs[task].Frame = api.Frame{Op: op}
	x.on[task] = true
	return true
}

// step does a step of the task, and fails the test, if exclusion doesn't hold behind it; where the operation ends with that, what the task holds then is what its notes tell.
func (x *crowd) step(task int) {
	x.t.Helper()
	r := &x.runs[task]
	if line.Stuck(*r) {
		return
	}
	over := r.Step(x.lines)
	for _, n := range r.Notes {
		x.note(n)
	}
	if over {
		x.hold[task] = suite.Behind(r.Frame.Op, r.Frame.Ret, x.hold[task])
		x.on[task] = false
		if x.hold[task] != x.noted[task] {
			x.t.Fatalf("the kind %d in the mode %d: the task %d holds %d by its notes: %+v", x.kind, r.Mode, task, x.noted[task], x)
		}
	}
	if !excludes(x.hold) || !excludes(x.noted) {
		x.t.Fatalf("the kind %d in the mode %d: one holds write, and another one something: %+v", x.kind, r.Mode, x)
	}
}

// note keeps what a note tells of what its task holds.
func (x *crowd) note(n api.Note) {
	switch n.What {
	case api.NReg:
		x.asks[n.Task] = n.Arg
	case api.NAdmit:
		x.noted[n.Task] = x.asks[n.Task]
	case api.NRelease, api.NLeave:
		x.noted[n.Task] = none
	case api.NUp:
		x.noted[n.Task] = write
	case api.NDown:
		x.noted[n.Task] = read
	}
}

// excludes tells whether no task holds write while another one holds anything.
func excludes(hold []int) bool {
	held := slices.DeleteFunc(slices.Clone(hold), func(h int) bool { return h == none })
	return !slices.Contains(held, write) || len(held) == 1
}

// goOn steps the task, until its operation is over, or so many steps were done; it answers whether it is over.
func (x *crowd) goOn(task int) bool {
	x.t.Helper()
	for i := 0; x.on[task] && i < 40+10*len(x.runs); i++ {
		x.step(task)
	}
	return !x.on[task]
}

// ends begins the operation, and goes on with it: it fails the test, unless that ends with ret, or, if ret is RetNone, doesn't end.
func (x *crowd) ends(task, op, ret int) {
	x.t.Helper()
	if !x.begin(task, op) {
		x.t.Fatalf("the kind %d: the task %d may not begin %d: %+v", x.kind, task, op, x.hold)
	}
	if over := x.goOn(task); over != (ret != api.RetNone) || x.runs[task].Frame.Ret != ret {
		x.t.Fatalf("the kind %d: the operation %d of the task %d: %+v", x.kind, op, task, x.runs[task].Frame)
	}
}

// holds fails the test, unless the tasks hold that.
func (x *crowd) holds(hold ...int) {
	x.t.Helper()
	if !slices.Equal(x.hold, hold) {
		x.t.Fatalf("the kind %d: the tasks hold %v, want %v", x.kind, x.hold, hold)
	}
}

// P17.1, P17.2: of all kinds, crowds of tasks that begin what they may: while one holds write no other one holds anything, by At and Behind as by the notes, and all get through, once no more come.
func TestCrowds(t *testing.T) {
	d := dice(1)
	for _, n := range []int{1, 2, 3, 6} {
		gathered(t, n, func(x *crowd) {
			reads, writes := 0, 0
			for range 2000 {
				task := d.below(n)
				if !x.on[task] {
					x.begin(task, d.below(9))
				}
				if x.on[task] {
					x.step(task)
				}
				reads += hasTwo(x.hold)
				if slices.Contains(x.hold, write) {
					writes++
				}
			}
			x.leave()
			if (reads == 0) != (n == 1) || writes == 0 {
				t.Errorf("the kind %d, %d tasks: two read at once %d times, one writes %d times", x.kind, n, reads, writes)
			}
		})
	}
}

// hasTwo is 1, if two tasks read at once.
func hasTwo(hold []int) int {
	held := slices.DeleteFunc(slices.Clone(hold), func(h int) bool { return h != read })
	return min(len(held)/2, 1)
}

// leave goes round all tasks, each of which begins nothing but what gives up what it holds, until none holds anything.
func (x *crowd) leave() {
	x.t.Helper()
	for range 400 * (len(x.runs) + 2) {
		for task := range x.runs {
			if !x.on[task] && !x.begin(task, api.RUnlock) && !x.begin(task, api.Unlock) {
				continue
			}
			x.step(task)
		}
	}
	if slices.Contains(x.on, true) || slices.Max(x.hold) != none {
		x.t.Fatalf("the kind %d doesn't get through: %+v", x.kind, x)
	}
}
