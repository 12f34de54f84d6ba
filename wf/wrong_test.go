package wf_test

import (
	"slices"
	"testing"

	"stileman/api"
	"stileman/cells"
	"stileman/line"
	"stileman/place"
	"stileman/wf"
)

// P16.1: of a nil run nothing is done.
func TestNilRun(t *testing.T) {
	wf.Lines(nil)
	var r *line.Run
	if r.Step(wf.Lines) {
		t.Error("a step of a nil run is over")
	}
}

// isThere tells whether the operation has the line, by the chapter's table.
func isThere(op, n int) bool {
	many := map[int]int{
		api.RLock: 4, api.RUnlock: 1, api.Lock: 2, api.Unlock: 2, api.TryRLock: 2, api.TryLock: 2, api.TryUpgrade: 2, api.Downgrade: 2,
	}
	return n >= 0 && n < many[op]
}

// P16.1: of an operation, or a line, that isn't there nothing is done; a step tells no access and no notes, and is over, if a result was there ahead.
func TestNoLine(t *testing.T) {
	for _, op := range numbers() {
		for _, n := range numbers() {
			if isThere(op, n) {
				continue
			}
			for _, mode := range append(spins(), api.Parked) {
				for _, ret := range []int{goes, no, yes} {
					noLine(t, mode, api.Frame{Op: op, Line: n, A: 1, B: 6, Wait: api.Wait{Stage: 2}, Wake: api.Wake{Cell: 1, I: 1}, Ret: ret})
				}
			}
		}
	}
}

// noLine fails the test, unless nothing is done from the frame on.
func noLine(t *testing.T, mode int, frame api.Frame) {
	t.Helper()
	l := marked(16, 1)
	m, _ := cells.From(l...)
	r := line.Run{Mem: m, Map: place.Map{N: 2}, Mode: mode, Task: 1, Frame: frame}
	access, notes := api.Access{Kind: 4, Cell: 3, X: 2, Old: 1}, []api.Note{{Task: 1, What: 4}, {What: 8}}
	r.Access, r.Notes = access, slices.Clone(notes)
	wf.Lines(&r)
	if r.Frame != frame || r.Access != access || !slices.Equal(r.Notes, notes) {
		t.Fatalf("%+v: %+v", frame, r)
	}
	over := r.Step(wf.Lines)
	if r.Frame != frame || r.Access != (api.Access{}) || len(r.Notes) != 0 || over != (frame.Ret != goes) {
		t.Fatalf("%+v: %v, %+v", frame, over, r)
	}
	if all := m.All(); !slices.Equal(all, l) {
		t.Fatalf("%+v: the cells are %x", frame, all)
	}
}

// P16.1: each line that is there does something.
func TestLinesAreThere(t *testing.T) {
	everywhere(func(op, n int) {
		if !isThere(op, n) {
			return
		}
		r := line.Run{Mem: lock(t, 2, 5), Map: place.Map{N: 2}, Mode: api.Spin, Task: 1, Frame: api.Frame{Op: op, Line: n, A: 1}}
		if wf.Lines(&r); r.Access == (api.Access{}) {
			t.Errorf("the line %d of the operation %d: %+v", n, op, r)
		}
	})
}

// P16.1: of a nil memory, and of one without cells, the word isn't there: what is loaded and added to is 0, and a cas hasn't found it; no access is told.
func TestNoCells(t *testing.T) {
	note := func(what, arg int) api.Note { return api.Note{Task: 1, What: what, Arg: arg} }
	empty, _ := cells.New(0)
	for _, x := range []struct {
		op, line int
		a        uint32
		to       int
		aThen    uint32
		ret      int
		notes    []api.Note
		wakesUp  bool
	}{
		{api.RLock, 0, 4, 1, 0, goes, []api.Note{note(api.NReg, api.HoldRead)}, false},
		{api.RLock, 1, 0, 3, 0, goes, nil, false},
		{api.RLock, 2, 4, 1, 0, goes, nil, false},
		{api.RLock, 3, w, 1, 0, goes, nil, false},
		{api.RUnlock, 0, 4, 0, 4, yes, []api.Note{note(api.NRelease, 0)}, true},
		{api.Lock, 0, 4, 1, 0, goes, []api.Note{note(api.NReg, api.HoldWrite)}, false},
		{api.Lock, 1, 0x500, 1, 0x500, yes, []api.Note{note(api.NAdmit, 0)}, false},
		{api.Unlock, 0, 4, 1, 0, goes, nil, false},
		{api.Unlock, 1, 4, 1, 4, yes, []api.Note{note(api.NLeave, 0), note(api.NPass, 0)}, true},
		{api.TryRLock, 0, 4, 1, 0, goes, nil, false},
		{api.TryRLock, 1, 0, 0, 0, goes, nil, false},
		{api.TryLock, 0, 4, 1, 0, goes, nil, false},
		{api.TryLock, 1, 0, 0, 0, goes, nil, false},
		{api.TryUpgrade, 0, 1, 0, 0, no, []api.Note{note(api.NRefuse, 0)}, false},
		{api.TryUpgrade, 1, 0, 0, 0, goes, nil, false},
		{api.Downgrade, 0, 4, 1, 0, goes, nil, false},
		{api.Downgrade, 1, 4, 1, 4, yes, []api.Note{note(api.NDown, 0)}, true},
	} {
		for _, m := range []*cells.Memory{nil, empty} {
			for _, mode := range modes() {
				r := line.Run{Mem: m, Map: place.Map{N: 2}, Mode: mode, Task: 1, Frame: api.Frame{Op: x.op, Line: x.line, A: x.a, B: 6}}
				over := r.Step(wf.Lines)
				want := api.Frame{Op: x.op, Line: x.to, A: x.aThen, B: 6, Ret: x.ret}
				if mode == api.Parked && x.wakesUp {
					want.Wake = api.Wake{On: true}
				}
				if r.Frame != want || over != (x.ret != goes && !want.Wake.On) || r.Access != (api.Access{}) || !slices.Equal(r.Notes, x.notes) {
					t.Errorf("%+v in the mode %d: %v, %+v", x, mode, over, r)
				}
			}
		}
	}
}

// P16.1: of a memory that has the lock's own cell alone, operations that belong together end with true, and leave R 0, and I as O.
func TestOneCell(t *testing.T) {
	for _, ops := range togethers() {
		for _, mode := range append(spins(), api.Parked) {
			m, _ := cells.New(1)
			for _, op := range ops {
				r := begun(m, 2, mode, 1, op)
				if through(t, r); r.Frame.Ret != yes {
					t.Errorf("%v in the mode %d: the operation %d: %+v", ops, mode, op, r.Frame)
				}
			}
			if m.Load(0) != given(0, tickets(ops)) || m.Len() != 1 {
				t.Errorf("%v in the mode %d: the cells are %x", ops, mode, m.All())
			}
		}
	}
}

// P16.1: a task that isn't there, of any number of tasks: its notes tell it, and only the lock's own cell is touched; its operations by themselves end with true all the same, and leave R 0, and I as O, there.
func TestNoTask(t *testing.T) {
	for _, n := range append(counts(), noCounts()...) {
		for _, task := range noTasks(n) {
			for _, mode := range append(spins(), api.Parked) {
				noTask(t, n, mode, task)
			}
		}
	}
}

// P16.1: a number of tasks that no lock has: no task has cells, also one that is there for another number.
func TestNoCount(t *testing.T) {
	for _, n := range noCounts() {
		for _, mode := range append(spins(), api.Parked) {
			for _, task := range []int{0, 1, 63} {
				noTask(t, n, mode, task)
			}
		}
	}
}

// noTask does operations that belong together, of a task without cells, and fails the test, unless they end with true, and each of their steps leaves all cells as they are but for the lock's own, and notes the task alone.
func noTask(t *testing.T, n, mode, task int) {
	t.Helper()
	v := word(255, 255, 0)
	l := marked(size(n), v)
	m, _ := cells.From(l...)
	for _, ops := range togethers() {
		for _, op := range ops {
			r := begun(m, n, mode, task, op)
			for i, over := 0, false; !over; i++ {
				over = r.Step(wf.Lines)
				if i > 400 || slices.ContainsFunc(r.Notes, func(x api.Note) bool { return x.Task != task }) || !slices.Equal(m.All()[1:], l[1:]) {
					t.Fatalf("the task %d of %d in the mode %d: %+v, the cells are %x", task, n, mode, r, m.All())
				}
			}
			if r.Frame.Ret != yes {
				t.Fatalf("the task %d of %d in the mode %d: %+v", task, n, mode, r.Frame)
			}
		}
		v = given(v, tickets(ops))
		if m.Load(0) != v {
			t.Fatalf("%v of the task %d of %d in the mode %d: the cells are %x, want %x", ops, task, n, mode, m.All(), v)
		}
	}
}

// P16.1: a task that isn't there waits, too: it has no watch and no permit, and what it waits for comes all the same, if it is looked at again.
func TestNoTaskWaits(t *testing.T) {
	for _, task := range noTasks(2) {
		for _, mode := range append(spins(), api.Parked) {
			for _, x := range waitings() {
				m, _ := cells.From(marked(16, x.not[0])...)
				r := begun(m, 2, mode, task, x.op)
				r.Frame.Line, r.Frame.A = x.line, x.kept
				for range 12 {
					if r.Step(wf.Lines) || len(r.Notes) > 0 || r.Frame.Line != x.line || r.Frame.A != x.kept || !slices.Equal(m.All(), marked(16, x.not[0])) {
						t.Fatalf("the task %d in the mode %d: %+v, the cells are %x", task, mode, r, m.All())
					}
				}
				if stuck := line.Stuck(*r); stuck != (mode == api.Parked) {
					t.Errorf("the task %d in the mode %d: stuck %v, %+v", task, mode, stuck, r)
				}
			}
		}
	}
}

// P16.1: a wake-up that is on at the step's begin goes first; the line is done when that is through.
func TestWakeFirst(t *testing.T) {
	everywhere(func(op, n int) {
		if !isThere(op, n) {
			return
		}
		m, _ := cells.From(0, 0, 0, 0, 0, 0, 0, 0, 0, 0, 0, 0, 6, 0, 0, 0)
		r := line.Run{Mem: m, Map: place.Map{N: 2}, Mode: api.Parked, Task: 1}
		r.Frame = api.Frame{Op: op, Line: n, A: 1, B: 7, Wake: api.Wake{On: true, Cell: 5}}
		for i, want := range []string{"load 12 was 00000006", "store 14 00000001 was 00000000", "load 13 was 00000000"} {
			over := r.Step(wf.Lines)
			if text(&r) != want || over || r.Frame.Line != n || r.Frame.A != 1 || r.Frame.B != 7 {
				t.Fatalf("the line %d of the operation %d, the step %d: %s, %+v", n, op, i, text(&r), r.Frame)
			}
		}
		m, _ = cells.From(m.All()...)
		s := line.Run{Mem: m, Map: r.Map, Mode: api.Parked, Task: 1, Frame: api.Frame{Op: op, Line: n, A: 1, B: 7}}
		if r.Step(wf.Lines) != s.Step(wf.Lines) || r.Frame != s.Frame || text(&r) != text(&s) {
			t.Errorf("the line %d of the operation %d: %s, %+v, want %s, %+v", n, op, text(&r), r.Frame, text(&s), s.Frame)
		}
	})
}

// P16.1: who leaves, or goes down, wakes all that watch the word, and nobody else, and ends with the last step of that.
func TestWakesAll(t *testing.T) {
	for op, own := range map[int]int{api.RUnlock: 1, api.Unlock: 2, api.Downgrade: 2} {
		for _, task := range []int{0, 63} {
			m := lock(t, 64, 5)
			for i := range 64 {
				m.Store(8+2*64+i, []uint32{1, 0, 2}[i%3])
			}
			r := begun(m, 64, api.Parked, task, op)
			steps := through(t, r)
			if len(steps) != own+64+22 || r.Frame.Ret != yes {
				t.Errorf("the operation %d: %d steps, %+v", op, len(steps), r.Frame)
			}
			for i := range 64 {
				if permit := m.Load(8 + 3*64 + i); (permit == 1) != (i%3 == 0) {
					t.Errorf("the operation %d: the permit %d is %d", op, i, permit)
				}
			}
		}
	}
}

// R4: notes that were handed out stay as they are, whatever is done then, and one may write them over.
func TestNotesStay(t *testing.T) {
	m := lock(t, 2, 5)
	r := begun(m, 2, api.Spin, 1, api.TryLock)
	through(t, r)
	l := r.Notes
	r.Frame = api.Frame{Op: api.Unlock}
	through(t, r)
	if !slices.Equal(l, []api.Note{{Task: 1, What: api.NReg, Arg: api.HoldWrite}, {Task: 1, What: api.NAdmit}}) {
		t.Errorf("%+v", l)
	}
	l[0].Task = 50
	if !slices.Equal(r.Notes, []api.Note{{Task: 1, What: api.NLeave}, {Task: 1, What: api.NPass}}) {
		t.Errorf("%+v", r.Notes)
	}
}

// R6: two locks have nothing in common, and the same steps on the same words do the same.
func TestTwoLocks(t *testing.T) {
	for _, op := range []int{api.Lock, api.RLock, api.TryLock} {
		one, two := lock(t, 2, 5), lock(t, 2, 5)
		a, b := begun(one, 2, api.Parked, 0, op), begun(two, 2, api.Parked, 0, op)
		through(t, a)
		if !slices.Equal(two.All(), lock(t, 2, 5).All()) {
			t.Errorf("the operation %d: the second one is %x", op, two.All())
		}
		through(t, b)
		if a.Frame != b.Frame || !slices.Equal(one.All(), two.All()) {
			t.Errorf("the operation %d: %+v, %x, and %+v, %x", op, a.Frame, one.All(), b.Frame, two.All())
		}
	}
}
