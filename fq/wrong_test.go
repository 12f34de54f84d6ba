package fq_test

import (
	"slices"
	"testing"

	"stileman/api"
	"stileman/cells"
	"stileman/fq"
	"stileman/line"
	"stileman/place"
)

// P13.1: of a nil run nothing is done.
func TestNilRun(t *testing.T) {
	fq.Lines(nil)
	var r *line.Run
	if r.Step(fq.Lines) {
		t.Error("a step of a nil run is over")
	}
}

// isThere tells whether the operation has the line, by the chapter's table.
func isThere(op, n int) bool {
	switch op {
	case api.RLock:
		return n >= 0 && n <= 9
	case api.RUnlock:
		return n == 0
	case api.Lock:
		return n >= 0 && n <= 5
	case api.Unlock:
		return n >= 0 && n <= 3
	case api.TryRLock:
		return n == 0 || n == 1 || n >= 5 && n <= 9
	case api.TryLock:
		return n >= 0 && n <= 2 || n >= 6 && n <= 9
	case api.TryUpgrade:
		return n >= 0 && n <= 3 || n >= 6 && n <= 9
	case api.Downgrade:
		return n >= 0 && n <= 4
	}
	return false
}

// P13.1: of an operation, or a line, that isn't there nothing is done; a step tells no access and no notes, and is over, if a result was there ahead.
func TestNoLine(t *testing.T) {
	for _, op := range numbers() {
		for _, n := range numbers() {
			if isThere(op, n) {
				continue
			}
			for _, mode := range append(spins(), api.Parked) {
				for _, ret := range []int{goes, no, yes} {
					l := marked(16, 2, 1)
					m, _ := cells.From(l...)
					frame := api.Frame{Op: op, Line: n, A: 1, B: 6, Wait: api.Wait{Stage: 2}, Wake: api.Wake{Cell: 1, I: 1}, Ret: ret}
					r := line.Run{Mem: m, Map: place.Map{N: 2}, Mode: mode, Task: 1, Frame: frame}
					access, notes := api.Access{Kind: 4, Cell: 3, X: 2, Old: 1}, []api.Note{{Task: 1, What: 4}, {What: 8}}
					r.Access, r.Notes = access, slices.Clone(notes)
					fq.Lines(&r)
					if r.Frame != frame || r.Access != access || !slices.Equal(r.Notes, notes) {
						t.Fatalf("the line %d of the operation %d: %+v", n, op, r)
					}
					over := r.Step(fq.Lines)
					if r.Frame != frame || r.Access != (api.Access{}) || len(r.Notes) != 0 || over != (ret != goes) {
						t.Fatalf("the line %d of the operation %d: %v, %+v", n, op, over, r)
					}
					if all := m.All(); !slices.Equal(all, l) {
						t.Fatalf("the line %d of the operation %d: the cells are %x", n, op, all)
					}
				}
			}
		}
	}
}

// P13.1: each line that is there does something.
func TestLinesAreThere(t *testing.T) {
	everywhere(func(op, n int) {
		if !isThere(op, n) {
			return
		}
		r := line.Run{Mem: memory(2, set{0: 2, 9: 1}), Map: place.Map{N: 2}, Mode: api.Spin, Task: 1, Frame: api.Frame{Op: op, Line: n, A: 1}}
		if fq.Lines(&r); r.Access == (api.Access{}) {
			t.Errorf("the line %d of the operation %d: %+v", n, op, r)
		}
	})
}

// bare is a line, with A, on a run whose cells aren't there: A, the line and the result behind it, the notes, and the cell of the wake-up that begins.
type bare struct {
	op, line int
	a, aThen uint32
	to, ret  int
	notes    []api.Note
	wake     int
}

// bares are all lines, those that wait at their first look, as they are where each word is 0.
func bares() []bare {
	note := func(what, arg int) []api.Note { return []api.Note{{Task: 1, What: what, Arg: arg}} }
	l := []bare{
		{api.RLock, 5, 4, 4, 6, goes, nil, none},
		{api.RUnlock, 0, 4, 4, 0, yes, note(api.NRelease, 0), 1},
		{api.Lock, 5, 4, 4, 5, yes, note(api.NAdmit, 0), none},
		{api.TryRLock, 5, 4, 4, 6, goes, nil, none},
		{api.TryLock, 2, 4, 0, 2, yes, note(api.NAdmit, 0), none},
		{api.TryUpgrade, 2, 4, 0, 6, goes, note(api.NRefuse, 0), none},
		{api.TryUpgrade, 3, 4, 4, 3, yes, note(api.NUp, 0), none},
		{api.Downgrade, 0, 4, 4, 1, goes, nil, none},
	}
	for op, class := range map[int]int{api.RLock: api.HoldRead, api.Lock: api.HoldWrite} {
		l = append(l, []bare{
			{op, 0, 4, 4, 1, goes, nil, none},
			{op, 1, 4, 4, 2, goes, nil, none},
			{op, 2, 4, 0, 5, goes, note(api.NReg, class), none},
			{op, 3, 1, 1, 4, goes, nil, 8},
			{op, 3, 3, 3, 4, goes, nil, -1},
			{op, 4, 4, 4, 5, goes, nil, none},
		}...)
	}
	for _, op := range []int{api.TryRLock, api.TryLock, api.TryUpgrade} {
		l = append(l, bare{op, 0, 4, 4, 1, goes, nil, none}, bare{op, 1, 4, 4, 1, no, note(api.NRefuse, 0), none})
	}
	for g, notes := range map[giver][]api.Note{
		{api.RLock, 6, yes, ""}:     note(api.NAdmit, 0),
		{api.TryRLock, 6, yes, ""}:  note(api.NAdmit, 0),
		{api.Unlock, 0, yes, ""}:    {{Task: 1, What: api.NLeave}, {Task: 1, What: api.NPass}},
		{api.TryLock, 6, no, ""}:    note(api.NPass, 0),
		{api.TryUpgrade, 6, no, ""}: note(api.NPass, 0),
		{api.Downgrade, 1, yes, ""}: note(api.NDown, 0),
	} {
		a := g.from
		l = append(l, []bare{
			{g.op, a, 4, 0, a + 1, goes, nil, none},
			{g.op, a + 1, 4, 4, a + 2, goes, nil, none},
			{g.op, a + 2, 4, 4, a + 2, goes, nil, none},
			{g.op, a + 3, 1, 1, a + 3, g.ret, notes, 10},
			{g.op, a + 3, 0, 0, a + 3, g.ret, notes, -1},
			{g.op, a + 3, top, top, a + 3, g.ret, notes, -1},
		}...)
	}
	return l
}

// waitsOn tells whether the line waits on where each word is 0: for somebody behind the task.
func (x bare) waitsOn() bool {
	return slices.ContainsFunc(givers(), func(g giver) bool { return g.op == x.op && g.from+2 == x.line })
}

// P13.1: of a nil memory, and of one without cells, no cell is there: what is loaded, swapped and added to is 0, and a cas hasn't found it; no access is told.
func TestNoCells(t *testing.T) {
	empty, _ := cells.New(0)
	for _, x := range bares() {
		for _, m := range []*cells.Memory{nil, empty} {
			for _, mode := range modes() {
				r := line.Run{Mem: m, Map: place.Map{N: 2}, Mode: mode, Task: 1, Frame: api.Frame{Op: x.op, Line: x.line, A: x.a, B: 9}}
				over := r.Step(fq.Lines)
				want := api.Frame{Op: x.op, Line: x.to, A: x.aThen, B: 9, Ret: x.ret}
				if mode == api.Parked && x.wake != none {
					want.Wake = api.Wake{On: true, Cell: x.wake}
				}
				if mode == api.Parked && x.waitsOn() {
					want.Wait.Stage = 1
				}
				if r.Frame != want || over != (x.ret != goes && !want.Wake.On) || r.Access != (api.Access{}) || !slices.Equal(r.Notes, x.notes) {
					t.Errorf("%+v in the mode %d: %v, %+v", x, mode, over, r)
				}
			}
		}
	}
}

// P13.1: a task that isn't there, of any number of tasks: its notes tell it, and only tail and count are touched; its operations by themselves end with true all the same, and leave these 0.
func TestNoTask(t *testing.T) {
	for _, n := range append(counts(), noCounts()...) {
		for _, task := range noTasks(n) {
			for _, mode := range append(spins(), api.Parked) {
				l := marked(size(n), 0, 0)
				m, _ := cells.From(l...)
				for _, ops := range togethers() {
					for _, op := range ops {
						noTask(t, begun(m, n, mode, task, op), l)
					}
					if m.Load(0) != 0 || m.Load(1) != 0 {
						t.Fatalf("%v of the task %d of %d: the cells are %x", ops, task, n, m.All())
					}
				}
			}
		}
	}
}

// noTask does all steps of the run's operation, and fails the test, unless it ends with true, and each of them leaves all cells as they are in l, but for tail and count, and notes the run's task alone.
func noTask(t *testing.T, r *line.Run, l []uint32) {
	t.Helper()
	for i, over := 0, false; !over; i++ {
		over = r.Step(fq.Lines)
		if i > 600 {
			t.Fatalf("the task %d of %d: %+v", r.Task, r.Map.N, r.Frame)
		}
		for _, x := range r.Notes {
			if x.Task != r.Task {
				t.Fatalf("the task %d of %d notes %+v", r.Task, r.Map.N, x)
			}
		}
		if all := r.Mem.All(); !slices.Equal(all[2:], l[2:]) {
			t.Fatalf("the task %d of %d: %+v: the cells are %x", r.Task, r.Map.N, r.Frame, all)
		}
	}
	if r.Frame.Ret != yes {
		t.Fatalf("the task %d of %d: %+v", r.Task, r.Map.N, r.Frame)
	}
}

// P13.1: a number of tasks that no lock has: no task has cells, also one that is there for another number, and only tail and count are touched.
func TestNoCount(t *testing.T) {
	for _, n := range noCounts() {
		for _, mode := range modes() {
			for _, task := range []int{0, 1, 63} {
				l := marked(size(n), 0, 0)
				m, _ := cells.From(l...)
				for _, ops := range togethers() {
					for _, op := range ops {
						noTask(t, begun(m, n, mode, task, op), l)
					}
				}
				if m.Load(0) != 0 || m.Load(1) != 0 {
					t.Fatalf("the task %d of %d: the cells are %x", task, n, m.All())
				}
			}
		}
	}
}

// P13.1: an A that names a task that isn't there: it has no cell, and so nothing is stored; the step's notes, and the result, come all the same.
func TestNobodyThere(t *testing.T) {
	for _, n := range append(counts(), noCounts()...) {
		for _, a := range []uint32{0, uint32(max(n, 0)) + 1, 65, 66, half, top} {
			if a > 0 && int(a) <= n && n <= api.MaxTasks {
				continue // it names one that is there
			}
			for _, x := range bares() {
				if x.wake < 8 && x.wake != -1 {
					continue // A is no matter to it
				}
				for _, mode := range modes() {
					l := marked(size(n), 1, 1)
					m, _ := cells.From(l...)
					r := line.Run{Mem: m, Map: place.Map{N: n}, Mode: mode, Task: 1, Frame: api.Frame{Op: x.op, Line: x.line, A: a}}
					want := api.Frame{Op: x.op, Line: x.to, A: a, Ret: x.ret}
					if mode == api.Parked {
						want.Wake = api.Wake{On: true, Cell: -1}
					}
					fq.Lines(&r)
					if r.Frame != want || r.Access != (api.Access{}) || !slices.Equal(r.Notes, x.notes) || !slices.Equal(m.All(), l) {
						t.Errorf("%+v of %d, behind %d, in the mode %d: %+v, the cells are %x", x, n, a, mode, r, m.All())
					}
				}
			}
		}
	}
}

// P13.1: a wake-up that is on at the step's begin goes first; the line is done when that is through.
func TestWakeFirst(t *testing.T) {
	everywhere(func(op, n int) {
		if !isThere(op, n) {
			return
		}
		m := memory(2, set{0: 2, 9: 1, 12: 6})
		r := line.Run{Mem: m, Map: place.Map{N: 2}, Mode: api.Parked, Task: 1}
		r.Frame = api.Frame{Op: op, Line: n, A: 1, Wake: api.Wake{On: true, Cell: 5}}
		for i, want := range []string{"load 12 was 00000006", "store 14 00000001 was 00000000", "load 13 was 00000000"} {
			over := r.Step(fq.Lines)
			if text(&r) != want || over || r.Frame.Line != n || r.Frame.A != 1 {
				t.Fatalf("the line %d of the operation %d, the step %d: %s, %+v", n, op, i, text(&r), r.Frame)
			}
		}
		s := line.Run{Mem: memory(2, set{0: 2, 9: 1, 12: 6, 14: 1}), Map: r.Map, Mode: api.Parked, Task: 1, Frame: api.Frame{Op: op, Line: n, A: 1}}
		if r.Step(fq.Lines) != s.Step(fq.Lines) || r.Frame != s.Frame || text(&r) != text(&s) {
			t.Errorf("the line %d of the operation %d: %s, %+v, want %s, %+v", n, op, text(&r), r.Frame, text(&s), s.Frame)
		}
	})
}

// R4: notes that were handed out stay as they are, whatever is done then, and one may write them over.
func TestNotesStay(t *testing.T) {
	m := lock(t, 2)
	r := begun(m, 2, api.Spin, 1, api.Lock)
	through(t, r)
	r.Frame = api.Frame{Op: api.Unlock}
	through(t, r)
	l := r.Notes
	r.Frame = api.Frame{Op: api.RUnlock}
	r.Step(fq.Lines)
	if !slices.Equal(l, []api.Note{{Task: 1, What: api.NLeave}, {Task: 1, What: api.NPass}}) {
		t.Errorf("%+v", l)
	}
	l[0].Task = 50
	if !slices.Equal(r.Notes, []api.Note{{Task: 1, What: api.NRelease}}) {
		t.Errorf("%+v", r.Notes)
	}
}

// R6: two locks have nothing in common, and the same steps on the same words do the same.
func TestTwoLocks(t *testing.T) {
	for _, op := range []int{api.Lock, api.RLock, api.TryLock} {
		one, two := lock(t, 2), lock(t, 2)
		a, b := begun(one, 2, api.Parked, 0, op), begun(two, 2, api.Parked, 0, op)
		through(t, a)
		if !slices.Equal(two.All(), make([]uint32, 16)) {
			t.Errorf("the operation %d: the second one is %x", op, two.All())
		}
		through(t, b)
		if a.Frame != b.Frame || !slices.Equal(one.All(), two.All()) {
			t.Errorf("the operation %d: %+v, %x, and %+v, %x", op, a.Frame, one.All(), b.Frame, two.All())
		}
	}
}
