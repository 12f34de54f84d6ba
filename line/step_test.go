package line_test

import (
	"slices"
	"testing"

	"stileman/api"
	"stileman/cells"
	"stileman/line"
	"stileman/place"
)

// The chapter's example: a step whose lines do End(true) and Wake(c), in the mode Spin: it is over.
func TestExample(t *testing.T) {
	for _, c := range numbers() {
		r := line.Run{Mode: api.Spin}
		over := r.Step(func(r *line.Run) {
			r.End(true)
			r.Wake(c)
		})
		if !over || r.Frame != (api.Frame{Ret: 2}) {
			t.Errorf("the cell %d: %v, %+v", c, over, r.Frame)
		}
	}
}

// P9.2: steps that end with true and false, with a wake-up and without one, whichever comes first, in both modes; and steps that don't end.
func TestOver(t *testing.T) {
	yes, no := act{call: "end", ok: true}, act{call: "end"}
	wake, note := act{call: "wake", n: 3}, act{call: "note", n: 4}
	for _, x := range []struct {
		l            []act
		spin, parked bool
		ret          int
	}{
		{nil, false, false, 0},
		{[]act{note, {call: "go", n: 2}, {call: "add", n: 0, x: 1}}, false, false, 0},
		{[]act{yes}, true, true, 2},
		{[]act{no}, true, true, 1},
		{[]act{yes, no}, true, true, 1},
		{[]act{wake}, false, false, 0},
		{[]act{yes, wake}, true, false, 2},
		{[]act{wake, yes}, true, false, 2},
		{[]act{no, wake}, true, false, 1},
		{[]act{wake, note, no}, true, false, 1},
	} {
		for _, mode := range append(spins(), api.Parked) {
			want := x.spin
			if mode == api.Parked {
				want = x.parked
			}
			w := whole(t, 2)
			w.at(mode, 1)
			if over := w.steps(t, x.l...); over != want || w.r.Frame.Ret != x.ret {
				t.Errorf("%+v in the mode %d: %v, %+v", x.l, mode, over, w.r.Frame)
			}
		}
	}
}

// P9.2: a frame that has a result already, whatever that is, with a wake-up on and without one.
func TestOverAhead(t *testing.T) {
	for _, ret := range numbers() {
		for _, mode := range []int{api.Spin, api.Parked} {
			w := whole(t, 3)
			w.r.Mode, w.r.Frame.Ret = mode, ret
			w.tells()
			if over := w.steps(t, act{call: "add", n: 1, x: 1}); over != (ret != 0) {
				t.Errorf("the result %d: %v", ret, over)
			}
			w.r.Frame.Wake = api.Wake{On: true, Cell: 3}
			w.tells()
			for i := range 3 {
				if over := w.steps(t); over != (ret != 0 && i == 2) {
					t.Errorf("the result %d, the step %d of the wake-up: %v", ret, i, over)
				}
			}
		}
	}
}

// P9.2: a wake-up that begins within a step; its steps are the next ones, and the lines are not called until it isn't on.
func TestWakeUp(t *testing.T) {
	for _, n := range counts() {
		for _, of := range []int{1, 2, 64, 100} {
			for _, ret := range []bool{false, true} {
				for _, c := range []int{0, 8 + 4*n - 1, 8 + 4*n, -1} {
					w := whole(t, n)
					w.at(api.Parked, n-1)
					hits := 0
					for task := range n {
						w.set(permit(n, task), 0)
						w.set(watch(n, task), uint32(c)+2)
						if task%of == of-1 {
							w.set(watch(n, task), uint32(c)+1)
							hits++
						}
					}
					w.steps(t, act{call: "note", n: 4}, act{call: "end", ok: ret}, act{call: "wake", n: c})
					steps := 0
					for over := false; !over && steps <= 2*n; steps++ {
						over = w.steps(t)
					}
					if steps != n+hits || w.r.Frame.Wake != (api.Wake{}) {
						t.Errorf("%d of %d tasks watch the cell %d: %d steps, %+v", hits, n, c, steps, w.r.Frame)
					}
				}
			}
		}
	}
}

// P9.2: of a wake-up without a result, the lines are called again behind its last step, in the step that follows.
func TestWakeUpWithoutResult(t *testing.T) {
	m, _ := cells.New(16)
	m.Store(13, 6)
	r := line.Run{Mem: m, Map: place.Map{N: 2}, Mode: api.Parked}
	calls := 0
	lines := func(r *line.Run) {
		calls++
		if calls == 1 {
			r.Add(0, 1)
			r.Go(1)
			r.Wake(5)
		} else {
			r.Load(0)
			r.End(true)
		}
	}
	for i, x := range []struct {
		calls int
		a     api.Access
		over  bool
	}{
		{1, api.Access{Kind: api.AAdd, X: 1}, false},
		{1, api.Access{Kind: api.ALoad, Cell: 12}, false},
		{1, api.Access{Kind: api.ALoad, Cell: 13, Old: 6}, false},
		{1, api.Access{Kind: api.AStore, Cell: 15, X: 1}, false},
		{2, api.Access{Kind: api.ALoad, Old: 1}, true},
	} {
		if over := r.Step(lines); over != x.over || calls != x.calls || r.Access != x.a || r.Frame.Line != 1 {
			t.Errorf("the step %d: %v, %d calls, %+v, %+v", i, over, calls, r.Access, r.Frame)
		}
	}
}

// P9.2: a wake-up from each of its stages, also of those that are none, of all numbers of tasks; it goes on in the mode Spin too.
func TestWakeUpAtAll(t *testing.T) {
	for _, n := range append(counts(), noCounts()...) {
		size := api.MaxCells
		if n >= 1 && n <= 64 {
			size = 8 + 4*n
		}
		for _, i := range append(noTasks(n), 0, 1, n/2, n-1) {
			for _, hit := range []bool{false, true} {
				for _, on := range []bool{false, true} {
					w := marked(t, n, size)
					w.set(watch(n, i), 4)
					for _, mode := range []int{api.Parked, api.Spin, 0, 3} {
						for _, c := range []int{3, 4, -1} {
							w.at(mode, 0)
							w.r.Frame.Wake, w.r.Frame.Ret = api.Wake{On: on, Cell: c, I: i, Hit: hit}, 1
							w.tells()
							w.steps(t, act{call: "load", n: 2})
						}
					}
				}
			}
		}
	}
}

// P9.2: where the memory hasn't the wake-up's next cell, the step does nothing, its access is zero, and the wake-up is over.
func TestWakeUpOfFewerCells(t *testing.T) {
	for _, n := range counts() {
		for _, hit := range []bool{false, true} {
			for _, w := range []*twin{bare(n), marked(t, n, 8+2*n), marked(t, n, 0)} {
				w.r.Frame.Wake, w.r.Frame.Ret = api.Wake{On: true, Cell: 3, Hit: hit}, 2
				w.r.Access = api.Access{Kind: api.ALoad, Old: 5}
				w.tells()
				if !w.steps(t) || w.r.Access != (api.Access{}) {
					t.Errorf("%+v, %+v", w.r.Frame, w.r.Access)
				}
			}
		}
	}
}

// P9.2: Access and Notes are empty at the begin of each step, whatever they held ahead of it.
func TestEmptyAtFirst(t *testing.T) {
	old := []api.Note{{Task: 7, What: 8, Arg: 9}, {Task: 1}}
	for _, on := range []bool{false, true} {
		for _, mem := range []bool{false, true} {
			w := bare(2)
			if mem {
				w = whole(t, 2)
			}
			for _, lines := range []bool{false, true} {
				w.r.Frame.Wake = api.Wake{On: on, Cell: 3}
				w.r.Access, w.r.Notes = api.Access{Kind: 99, Cell: -5, X: 1, Y: 2, Old: 3}, old
				w.tells()
				if lines {
					w.steps(t)
				} else {
					w.r.Step(nil)
				}
				if len(w.r.Notes) != 0 || w.r.Access.Kind == 99 || w.r.Access.Y != 0 {
					t.Errorf("a wake-up on, %v: %+v", on, w.r)
				}
			}
		}
	}
	if !slices.Equal(old, []api.Note{{Task: 7, What: 8, Arg: 9}, {Task: 1}}) {
		t.Errorf("the list that was handed in is %+v", old)
	}
}

// P9.2: each step's notes are its own, and stay as they are when others are noted.
func TestNotesOfSteps(t *testing.T) {
	w := whole(t, 2)
	w.at(api.Parked, 1)
	var lists [][]api.Note
	for i := range 30 {
		l := []act{{call: "load", n: i}}
		for j := range i % 5 {
			l = append(l, act{call: "note", n: i, m: j})
		}
		w.steps(t, l...)
		lists = append(lists, w.r.Notes)
	}
	for i, l := range lists {
		if len(l) != i%5 {
			t.Errorf("of the step %d: %+v", i, l)
		}
		for j, n := range l {
			if n != (api.Note{Task: 1, What: i, Arg: j}) {
				t.Errorf("of the step %d: %+v", i, l)
			}
		}
	}
}

// P9.2, R4: what is written over in a step's notes changes nothing in the next ones.
func TestNotesWrittenOver(t *testing.T) {
	r := line.Run{}
	lines := func(r *line.Run) {
		r.Note(api.NAdmit, 0)
		r.Note(api.NReg, 1)
	}
	r.Step(lines)
	first := r.Notes
	r.Step(lines)
	first[0].Task, first[1].Task = 50, 51
	first = append(first[:1], api.Note{What: 52})
	if !slices.Equal(r.Notes, []api.Note{{What: api.NAdmit}, {What: api.NReg, Arg: 1}}) || len(first) != 2 {
		t.Errorf("%+v, %+v", first, r.Notes)
	}
}

// P9.2: lines that aren't there do nothing: the frame and the words stay, and a result that is there ends the operation.
func TestNilLines(t *testing.T) {
	for _, ret := range []int{0, 1, 2, 3} {
		for _, w := range []*twin{bare(2), whole(t, 2), whole(t, 64)} {
			w.r.Frame.Ret, w.r.Frame.Wait.Stage = ret, 3
			w.r.Note(4, 4)
			w.r.Load(0)
			w.tells()
			w.want.Access, w.want.Notes = api.Access{}, nil
			if over := w.r.Step(nil); over != (ret != 0) {
				t.Errorf("the result %d: %v", ret, over)
			}
			w.same(t, "nil lines")
		}
	}
}

// P9.2: with a wake-up on, lines that aren't there make no difference.
func TestNilLinesWakeUp(t *testing.T) {
	w := whole(t, 2)
	w.set(watch(2, 0), 4)
	w.r.Frame.Wake, w.r.Frame.Ret = api.Wake{On: true, Cell: 3}, 2
	w.tells()
	for i, want := range []bool{false, false, true} {
		w.wakes()
		if over := w.r.Step(nil); over != want {
			t.Errorf("the step %d: %v", i, over)
		}
		w.same(t, i)
	}
}

// P1: lines that panic don't let Step panic: what they did ahead of it stands, and is told.
func TestBrokenLines(t *testing.T) {
	for _, end := range []bool{false, true} {
		w := whole(t, 2)
		over := w.r.Step(func(r *line.Run) {
			w.does(t, act{call: "add", n: 1, x: 5}, act{call: "note", n: 4}, act{call: "go", n: 7})
			if end {
				w.does(t, act{call: "end", ok: true})
			}
			broken(0)
		})
		w.same(t, "broken lines")
		if over != end {
			t.Errorf("%v, %+v", over, w.r.Frame)
		}
		w.r.Frame.Ret = 0
		w.tells()
		w.steps(t, act{call: "load", n: 1})
	}
}

// P9.2: a step of waiting within a step: the notes come with the step that saw it, and a stuck one does no access.
func TestWaitWithinSteps(t *testing.T) {
	p, _ := place.New(2)
	m, _ := cells.New(p.Size())
	waiter := line.Run{Mem: m, Map: p, Mode: api.Parked, Task: 1, Frame: api.Frame{Op: api.Lock, A: 5}}
	other := line.Run{Mem: m, Map: p, Mode: api.Parked, Frame: api.Frame{Op: api.Unlock}}
	wait := func(r *line.Run) {
		seen, done := r.Wait(0, func(v uint32) bool { return v == r.Frame.A })
		if seen {
			r.Note(api.NAdmit, 0)
		}
		if done {
			r.End(true)
		}
	}
	store := func(r *line.Run) {
		r.Store(0, 5)
		r.Note(api.NPass, 0)
		r.End(true)
		r.Wake(0)
	}
	admit, pass := []api.Note{{Task: 1, What: api.NAdmit}}, []api.Note{{What: api.NPass}}
	for i, x := range []struct {
		r     *line.Run
		lines func(r *line.Run)
		a     api.Access
		notes []api.Note
		over  bool
		stuck bool // the waiter, behind the step
	}{
		{&waiter, wait, api.Access{Kind: api.ALoad}, nil, false, false},
		{&waiter, wait, api.Access{Kind: api.AStore, Cell: 13, X: 1}, nil, false, false},
		{&waiter, wait, api.Access{Kind: api.ALoad}, nil, false, true},
		{&waiter, wait, api.Access{}, nil, false, true},
		{&other, store, api.Access{Kind: api.AStore, X: 5}, pass, false, true},
		{&other, store, api.Access{Kind: api.ALoad, Cell: 12}, nil, false, true},
		{&other, store, api.Access{Kind: api.ALoad, Cell: 13, Old: 1}, nil, false, true},
		{&waiter, wait, api.Access{}, nil, false, true},
		{&other, store, api.Access{Kind: api.AStore, Cell: 15, X: 1}, nil, true, false},
		{&waiter, wait, api.Access{Kind: api.ASwap, Cell: 15, Old: 1}, nil, false, false},
		{&waiter, wait, api.Access{Kind: api.ALoad, Old: 5}, admit, false, false},
		{&waiter, wait, api.Access{Kind: api.AStore, Cell: 13, Old: 1}, nil, true, false},
	} {
		over := x.r.Step(x.lines)
		if over != x.over || x.r.Access != x.a || !slices.Equal(x.r.Notes, x.notes) || line.Stuck(waiter) != x.stuck {
			t.Errorf("the step %d: %v, %+v", i, over, x.r)
		}
	}
	if waiter.Frame != (api.Frame{Op: api.Lock, A: 5, Ret: 2}) || other.Frame != (api.Frame{Op: api.Unlock, Ret: 2}) {
		t.Errorf("%+v, %+v", waiter.Frame, other.Frame)
	}
}
