package line_test

import (
	"slices"
	"testing"

	"stileman/api"
	"stileman/cells"
	"stileman/line"
	"stileman/place"
)

// stuck fails the test, unless Stuck tells what the chapters do, and touches nothing.
func (w *twin) stuck(t *testing.T) {
	t.Helper()
	r := w.want
	p := permit(r.Map.N, r.Task)
	there := w.has(p) && w.words[p] != 0
	want := !r.Frame.Wake.On && r.Mode == 2 && r.Frame.Wait.Stage == 3 && !there
	if got := line.Stuck(*w.r); got != want {
		t.Fatalf("Stuck of %+v, whose permit is there, %v: %v", r, there, got)
	}
	w.same(t, "stuck")
}

// stuckAtAll asks from each stage, in all modes, with a wake-up on and without one, whatever the other parts of the frame are.
func (w *twin) stuckAtAll(t *testing.T) {
	t.Helper()
	for _, stage := range stages() {
		for _, mode := range append(spins(), api.Parked) {
			for _, wake := range []api.Wake{{}, {On: true, Cell: 3}, {Cell: 3, I: 1, Hit: true}} {
				for _, ret := range []int{0, 2} {
					w.r.Mode, w.r.Frame.Wake, w.r.Frame.Wait.Stage, w.r.Frame.Ret = mode, wake, stage, ret
					w.tells()
					w.stuck(t)
				}
			}
		}
	}
}

// P9.3: rows of Stuck, of the second one of two tasks.
func TestStuck(t *testing.T) {
	for _, x := range []struct {
		mode, stage int
		permit      uint32
		on, want    bool
	}{
		{api.Parked, 3, 0, false, true},
		{api.Parked, 3, 0, true, false},
		{api.Parked, 3, 1, false, false},
		{api.Parked, 3, top, false, false},
		{api.Parked, 0, 0, false, false},
		{api.Parked, 1, 0, false, false},
		{api.Parked, 2, 0, false, false},
		{api.Parked, 4, 0, false, false},
		{api.Spin, 3, 0, false, false},
		{0, 3, 0, false, false},
		{3, 3, 0, false, false},
	} {
		m, _ := cells.New(16)
		m.Store(14, 1)
		m.Store(15, x.permit)
		r := line.Run{Mem: m, Map: place.Map{N: 2}, Mode: x.mode, Task: 1}
		r.Frame.Wait.Stage, r.Frame.Wake.On = x.stage, x.on
		if got := line.Stuck(r); got != x.want {
			t.Errorf("%+v: %v", x, got)
		}
	}
	if line.Stuck(line.Run{}) {
		t.Error("a zero run is stuck")
	}
}

// P9.3: of all tasks, and of those that aren't there, with a permit and without one.
func TestStuckOfAll(t *testing.T) {
	for _, n := range counts() {
		w := whole(t, n)
		for _, task := range append(noTasks(n), 0, n/2, n-1) {
			for _, x := range []uint32{0, 1, top} {
				w.r.Task = task
				w.set(permit(n, task), x)
				w.stuckAtAll(t)
			}
		}
	}
}

// P9.3: of a map for a number of tasks that no lock has, of a memory of fewer cells, and of a nil one, nobody has a permit.
func TestStuckWithoutPermits(t *testing.T) {
	for _, n := range noCounts() {
		w := marked(t, n, api.MaxCells)
		for _, task := range []int{0, 1, 63, n - 1, n} {
			w.r.Task = task
			w.stuckAtAll(t)
		}
	}
	for _, n := range counts() {
		for _, w := range []*twin{bare(n), marked(t, n, 0), marked(t, n, 8+3*n), marked(t, n, 8+4*n-1)} {
			for _, task := range []int{0, n - 1} {
				w.r.Task = task
				w.stuckAtAll(t)
			}
		}
	}
}

// P9.3: a step of one that is stuck does no access, and it is stuck as long as nobody gives it its permit.
func TestStuckStays(t *testing.T) {
	for _, n := range counts() {
		for _, task := range []int{0, n - 1} {
			w := whole(t, n)
			w.at(api.Parked, task)
			w.set(permit(n, task), 0)
			wait := act{call: "wait", n: 0, is: never}
			for range 6 {
				w.steps(t, wait)
				w.stuck(t)
			}
			if !line.Stuck(*w.r) || w.r.Access != (api.Access{}) {
				t.Errorf("%+v", w.r)
			}
			w.set(permit(n, task), 1)
			w.stuck(t)
			w.steps(t, wait)
			if line.Stuck(*w.r) || w.r.Access.Kind != api.ASwap {
				t.Errorf("%+v", w.r)
			}
		}
	}
}

// P9.3: of a nil run each call answers 0 and false, and does nothing.
func TestNil(t *testing.T) {
	var r *line.Run
	called := 0
	for _, n := range numbers() {
		for _, x := range words() {
			for _, a := range append(accesses(n, x, x), calls(n)...) {
				if got := a.on(r); got != (answer{}) {
					t.Errorf("%+v: %+v", a, got)
				}
			}
		}
		for _, is := range append(asks(), func(uint32) bool { called++; return true }) {
			if seen, done := r.Wait(n, is); seen || done {
				t.Errorf("Wait(%d): %v, %v", n, seen, done)
			}
		}
	}
	if r.Step(nil) || r.Step(func(*line.Run) { called++ }) {
		t.Error("a step of a nil run is over")
	}
	if called != 0 {
		t.Errorf("%d functions were called", called)
	}
}

// next answers a number that looks like any from 0 to n - 1; the same ones come each time.
func next(x *uint32, n int) int {
	*x = *x*1664525 + 1013904223
	return int(*x>>8) % n
}

// anyAct is a call with a cell from -1 to one behind the last one.
func (w *twin) anyAct(x *uint32) act {
	names := []string{"load", "store", "add", "swap", "cas", "cas", "wait", "wait", "wait", "note", "go", "end", "wake"}
	a := act{call: names[next(x, len(names))], n: next(x, len(w.words)+2) - 1, m: next(x, 9)}
	a.x, a.y, a.ok = uint32(next(x, 3)), uint32(next(x, 3)), next(x, 2) == 0
	if w.has(a.n) && next(x, 2) == 0 {
		a.x = w.words[a.n]
	}
	a.is = asks()[next(x, len(asks()))]
	return a
}

// P9.1 to P9.3: any calls, within steps and beside them, one behind the other.
func TestManySteps(t *testing.T) {
	x := uint32(1)
	for _, n := range []int{1, 2, 3, 64} {
		for _, mode := range []int{api.Parked, api.Parked, api.Spin, 0} {
			w := whole(t, n)
			for c := range w.words {
				w.set(c, uint32(next(&x, 4)))
			}
			for range 1500 {
				w.at(mode, next(&x, n))
				var l []act
				for range next(&x, 4) {
					l = append(l, w.anyAct(&x))
				}
				if next(&x, 5) == 0 {
					w.does(t, l...)
				} else if w.steps(t, l...) {
					w.r.Frame.Ret = 0
					w.tells()
				}
				w.stuck(t)
			}
		}
	}
}

// R6: the same calls have the same answers, and runs share nothing but what is handed to both.
func TestRunsApart(t *testing.T) {
	m, _ := cells.New(16)
	other, _ := cells.New(16)
	a := line.Run{Mem: m, Map: place.Map{N: 2}, Mode: api.Parked}
	b := line.Run{Mem: other, Map: place.Map{N: 2}, Mode: api.Parked}
	lines := func(r *line.Run) {
		r.Add(0, 1)
		r.Note(api.NLeave, 0)
		r.Wake(0)
	}
	for range 3 {
		a.Step(lines)
	}
	if b.Frame != (api.Frame{}) || b.Access != (api.Access{}) || len(b.Notes) != 0 || other.Load(0) != 0 {
		t.Errorf("%+v", b)
	}
	for range 3 {
		b.Step(lines)
	}
	if a.Frame != b.Frame || a.Access != b.Access || !slices.Equal(a.Notes, b.Notes) || !slices.Equal(m.All(), other.All()) {
		t.Errorf("%+v, %+v", a, b)
	}
}
