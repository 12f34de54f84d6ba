package pq_test

import (
	"slices"
	"testing"

	"stileman/api"
	"stileman/cells"
	"stileman/line"
	"stileman/place"
	"stileman/pq"
)

// P14.1: of a nil run nothing is done.
func TestNilRun(t *testing.T) {
	pq.Lines(nil)
	var r *line.Run
	if r.Step(pq.Lines) {
		t.Error("a step of a nil run is over")
	}
}

// isThere tells whether the operation has the line, by the chapter's table.
func isThere(op, n int) bool {
	last := map[int]int{
		api.RLock: 1, api.RUnlock: 0, api.Lock: 7, api.Unlock: 6, api.TryRLock: 1, api.TryLock: 11, api.TryUpgrade: 11, api.Downgrade: 6,
	}
	to, ok := last[op]
	return ok && n >= 0 && n <= to && (op != api.TryLock || n != 7)
}

// P14.1: of an operation, or a line, that isn't there nothing is done; a step tells no access and no notes, and is over, if a result was there ahead.
func TestNoLine(t *testing.T) {
	for _, op := range numbers() {
		for _, n := range numbers() {
			if isThere(op, n) {
				continue
			}
			for _, mode := range append(spins(), api.Parked) {
				for _, ret := range []int{goes, no, yes} {
					l := marked(16, 0x700, 0x700, 2, 7)
					m, _ := cells.From(l...)
					frame := api.Frame{Op: op, Line: n, A: 1, B: 6, Wait: api.Wait{Stage: 2}, Wake: api.Wake{Cell: 1, I: 1}, Ret: ret}
					r := line.Run{Mem: m, Map: place.Map{N: 2}, Mode: mode, Task: 1, Frame: frame}
					access, notes := api.Access{Kind: 4, Cell: 3, X: 2, Old: 1}, []api.Note{{Task: 1, What: 4}, {What: 8}}
					r.Access, r.Notes = access, slices.Clone(notes)
					pq.Lines(&r)
					if r.Frame != frame || r.Access != access || !slices.Equal(r.Notes, notes) {
						t.Fatalf("the line %d of the operation %d: %+v", n, op, r)
					}
					over := r.Step(pq.Lines)
					if r.Frame != frame || r.Access != (api.Access{}) || len(r.Notes) != 0 || over != (ret != goes) {
						t.Fatalf("the line %d of the operation %d: %v, %+v", n, op, over, r)
					}
					if all := m.All(); !slices.Equal(all, l) {
						t.Fatalf("the line %d of the operation %d: the cells are %x", n, op, all)
					}
				}
			}
		}
	}
}

// P14.1: each line that is there does something.
func TestLinesAreThere(t *testing.T) {
	everywhere(func(op, n int) {
		if !isThere(op, n) {
			return
		}
		r := line.Run{Mem: memory(2, set{2: 2, 9: 1}), Map: place.Map{N: 2}, Mode: api.Spin, Task: 1, Frame: api.Frame{Op: op, Line: n, A: 1}}
		if pq.Lines(&r); r.Access == (api.Access{}) {
			t.Errorf("the line %d of the operation %d: %+v", n, op, r)
		}
	})
}

// bare is a line, with A and B, on a run whose cells aren't there: the line, A, B and the result behind it, the notes, and the cell of the wake-up that begins.
type bare struct {
	op, line     int
	a, b         uint32
	to           int
	aThen, bThen uint32
	ret          int
	notes        []api.Note
	wake         int
}

// noteOf is a note of the task 1.
func noteOf(what, arg int) []api.Note {
	return []api.Note{{Task: 1, What: what, Arg: arg}}
}

// bares are all lines but those of a presence, as they are where each word is 0; those that wait do so at their first look, unless that is what they wait for.
func bares() []bare {
	l := []bare{
		{api.RLock, 0, 4, 6, 0, 0, 6, yes, []api.Note{{Task: 1, What: api.NReg, Arg: api.HoldRead}, {Task: 1, What: api.NAdmit}}, none},
		{api.RLock, 1, 2, 6, 1, 2, 6, yes, noteOf(api.NAdmit, 0), none},
		{api.RLock, 1, 3, 6, 1, 3, 6, yes, noteOf(api.NAdmit, 0), none},
		{api.RLock, 1, 0x500, 6, 1, 0x500, 6, goes, nil, none},
		{api.RUnlock, 0, 4, 6, 0, 4, 6, yes, noteOf(api.NRelease, 0), 1},
		{api.TryRLock, 0, 4, 6, 1, 0, 6, goes, nil, none},
		{api.TryRLock, 1, 0, 6, 0, 0, 6, goes, nil, none},
		{api.Lock, 0, 4, 6, 1, 4, 6, goes, nil, none},
		{api.Lock, 1, 4, 6, 2, 4, 6, goes, nil, none},
		{api.Lock, 2, 4, 6, 5, 0, 6, goes, noteOf(api.NReg, api.HoldWrite), none},
		{api.Lock, 3, 1, 6, 4, 1, 6, goes, nil, 8},
		{api.Lock, 3, 3, 6, 4, 3, 6, goes, nil, -1},
		{api.Lock, 4, 4, 6, 5, 4, 6, goes, nil, none},
		{api.Unlock, 1, 4, 6, 2, 4, 6, goes, noteOf(api.NLeave, 0), 0},
		{api.Downgrade, 1, 4, 6, 2, 4, 6, goes, noteOf(api.NDown, 0), 0},
		{api.TryLock, 3, 1, 6, 8, 1, 0, goes, noteOf(api.NRefuse, 0), none},
		{api.TryUpgrade, 3, 256, 6, 4, 256, 0, goes, nil, none},
		{api.TryUpgrade, 3, 257, 6, 8, 257, 0, goes, noteOf(api.NRefuse, 0), none},
		{api.TryUpgrade, 6, 256, 6, 7, 256, 6, goes, noteOf(api.NUp, 0), none},
		{api.TryUpgrade, 6, 0, 6, 6, 0, 6, goes, nil, none},
		{api.TryUpgrade, 7, 4, 6, 7, 4, 6, yes, nil, none},
	}
	for _, op := range []int{api.Unlock, api.Downgrade} {
		l = append(l, bare{op, 0, 4, 6, 1, 4, 0, goes, nil, none}, bare{op, 2, 4, 6, 3, 4, 6, goes, nil, none})
	}
	for _, op := range []int{api.TryLock, api.TryUpgrade} {
		l = append(l, []bare{
			{op, 0, 4, 6, 1, 4, 6, goes, nil, none},
			{op, 1, 4, 6, 1, 4, 6, no, noteOf(api.NRefuse, 0), none},
			{op, 2, 4, 6, 3, 0, 6, goes, nil, none},
			{op, 3, 0, 6, 4, 0, 0, goes, nil, none},
		}...)
	}
	return slices.Concat(l, baresOfPresence(), baresOfGiving())
}

// baresOfPresence are those of a writer's presence, and of its waiting for readers.
func baresOfPresence() (l []bare) {
	for op, n := range map[int]int{api.Lock: 5, api.TryLock: 4, api.TryUpgrade: 4} {
		l = append(l, bare{op, n, 4, 6, n + 1, 4, 0, goes, nil, none}, bare{op, n + 1, 4, 6, n + 2, 0, 6, goes, noteOf(api.NPresent, 0), none})
		if op != api.TryUpgrade {
			l = append(l, bare{op, n + 2, 0, 6, n + 2, 0, 6, yes, noteOf(api.NAdmit, 0), none}, bare{op, n + 2, 4, 6, n + 2, 4, 6, goes, nil, none})
		}
	}
	return l
}

// baresOfGiving are those of giving the queue on.
func baresOfGiving() (l []bare) {
	for _, g := range givers() {
		a := g.from
		l = append(l, []bare{
			{g.op, a, 4, 6, a + 1, 0, 6, goes, nil, none},
			{g.op, a + 1, 4, 6, a + 2, 4, 6, goes, nil, none},
			{g.op, a + 2, 4, 6, a + 2, 4, 6, goes, nil, none},
			{g.op, a + 3, 1, 6, a + 3, 1, 6, g.ret, noteOf(api.NPass, 0), 10},
			{g.op, a + 3, 0, 6, a + 3, 0, 6, g.ret, noteOf(api.NPass, 0), -1},
			{g.op, a + 3, top, 6, a + 3, top, 6, g.ret, noteOf(api.NPass, 0), -1},
		}...)
	}
	return l
}

// waitsOn tells whether the line waits on: it is the only one to stay without a result.
func (x bare) waitsOn() bool {
	return x.to == x.line && x.ret == goes
}

// P14.1: of a nil memory, and of one without cells, no cell is there: what is loaded, swapped and added to is 0, and a cas hasn't found it; no access is told.
func TestNoCells(t *testing.T) {
	empty, _ := cells.New(0)
	for _, x := range bares() {
		for _, m := range []*cells.Memory{nil, empty} {
			for _, mode := range modes() {
				r := line.Run{Mem: m, Map: place.Map{N: 2}, Mode: mode, Task: 1, Frame: api.Frame{Op: x.op, Line: x.line, A: x.a, B: x.b}}
				over := r.Step(pq.Lines)
				want := api.Frame{Op: x.op, Line: x.to, A: x.aThen, B: x.bThen, Ret: x.ret}
				if mode == api.Parked && x.wake != none {
					want.Wake = api.Wake{On: true, Cell: x.wake}
				}
				if mode == api.Parked && x.waitsOn() {
					want.Wait.Stage = 1
				}
				if r.Frame != want || over != (x.ret != goes && !want.Wake.On) || r.Access != (api.Access{}) || !slices.Equal(r.Notes, x.notes) {
					t.Errorf("%+v in the mode %d: %v, %+v", x, mode, over, r)
				}
			}
		}
	}
}

// P14.1: a task that isn't there, of any number of tasks: its notes tell it, and only the lock's own cells are touched; its operations by themselves end with true all the same, and leave these as they are to be.
func TestNoTask(t *testing.T) {
	for _, n := range append(counts(), noCounts()...) {
		for _, task := range noTasks(n) {
			for _, mode := range append(spins(), api.Parked) {
				noTask(t, n, mode, task)
			}
		}
	}
}

// P14.1: a number of tasks that no lock has: no task has cells, also one that is there for another number.
func TestNoCount(t *testing.T) {
	for _, n := range noCounts() {
		for _, mode := range modes() {
			for _, task := range []int{0, 1, 63} {
				noTask(t, n, mode, task)
			}
		}
	}
}

// noTask does operations that belong together, of a task without cells, and fails the test, unless they end with true, and each of their steps leaves all cells as they are but for the lock's own, and notes the task alone.
func noTask(t *testing.T, n, mode, task int) {
	t.Helper()
	l := marked(size(n), 0x700, 0x700, 0, 7)
	m, _ := cells.From(l...)
	for _, x := range togethers() {
		for _, op := range x.ops {
			r := begun(m, n, mode, task, op)
			for i, over := 0, false; !over; i++ {
				over = r.Step(pq.Lines)
				if i > 600 || slices.ContainsFunc(r.Notes, func(x api.Note) bool { return x.Task != task }) || !slices.Equal(m.All()[4:], l[4:]) {
					t.Fatalf("the task %d of %d in the mode %d: %+v, the cells are %x", task, n, mode, r, m.All())
				}
			}
			if r.Frame.Ret != yes {
				t.Fatalf("the task %d of %d in the mode %d: %+v", task, n, mode, r.Frame)
			}
		}
	}
	if ownOf(m) != counted(7, 10, 10) {
		t.Fatalf("the task %d of %d in the mode %d: the cells are %x", task, n, mode, m.All())
	}
}

// P14.1: an A that names a task that isn't there: it has no cell, and so nothing is stored; the step's notes, and the result, come all the same.
func TestNobodyThere(t *testing.T) {
	for _, n := range append(counts(), noCounts()...) {
		for _, a := range []uint32{0, uint32(max(n, 0)) + 1, 65, 66, half, top} {
			if a > 0 && int(a) <= n && n <= api.MaxTasks {
				continue // it names one that is there
			}
			for _, x := range bares() {
				if x.wake != -1 {
					continue // A is no matter to it, or names one that is there
				}
				for _, mode := range modes() {
					l := marked(size(n), 1, 1, 1, 1)
					m, _ := cells.From(l...)
					r := line.Run{Mem: m, Map: place.Map{N: n}, Mode: mode, Task: 1, Frame: api.Frame{Op: x.op, Line: x.line, A: a}}
					want := api.Frame{Op: x.op, Line: x.to, A: a, Ret: x.ret}
					if mode == api.Parked {
						want.Wake = api.Wake{On: true, Cell: -1}
					}
					pq.Lines(&r)
					if r.Frame != want || r.Access != (api.Access{}) || !slices.Equal(r.Notes, x.notes) || !slices.Equal(m.All(), l) {
						t.Errorf("%+v of %d, behind %d, in the mode %d: %+v, the cells are %x", x, n, a, mode, r, m.All())
					}
				}
			}
		}
	}
}

// P14.1: a wake-up that is on at the step's begin goes first; the line is done when that is through.
func TestWakeFirst(t *testing.T) {
	everywhere(func(op, n int) {
		if !isThere(op, n) {
			return
		}
		m := memory(2, set{2: 2, 9: 1, 12: 6})
		r := line.Run{Mem: m, Map: place.Map{N: 2}, Mode: api.Parked, Task: 1}
		r.Frame = api.Frame{Op: op, Line: n, A: 1, B: 7, Wake: api.Wake{On: true, Cell: 5}}
		for i, want := range []string{"load 12 was 00000006", "store 14 00000001 was 00000000", "load 13 was 00000000"} {
			over := r.Step(pq.Lines)
			if text(&r) != want || over || r.Frame.Line != n || r.Frame.A != 1 || r.Frame.B != 7 {
				t.Fatalf("the line %d of the operation %d, the step %d: %s, %+v", n, op, i, text(&r), r.Frame)
			}
		}
		s := line.Run{Mem: memory(2, set{2: 2, 9: 1, 12: 6, 14: 1}), Map: r.Map, Mode: api.Parked, Task: 1, Frame: api.Frame{Op: op, Line: n, A: 1, B: 7}}
		if r.Step(pq.Lines) != s.Step(pq.Lines) || r.Frame != s.Frame || text(&r) != text(&s) {
			t.Errorf("the line %d of the operation %d: %s, %+v, want %s, %+v", n, op, text(&r), r.Frame, text(&s), s.Frame)
		}
	})
}

// R4: notes that were handed out stay as they are, whatever is done then, and one may write them over.
func TestNotesStay(t *testing.T) {
	m := lock(t, 2, 0)
	r := begun(m, 2, api.Spin, 1, api.TryRLock)
	through(t, r)
	l := r.Notes
	r.Frame = api.Frame{Op: api.RUnlock}
	r.Step(pq.Lines)
	if !slices.Equal(l, []api.Note{{Task: 1, What: api.NReg, Arg: api.HoldRead}, {Task: 1, What: api.NAdmit}}) {
		t.Errorf("%+v", l)
	}
	l[0].Task = 50
	if !slices.Equal(r.Notes, []api.Note{{Task: 1, What: api.NRelease}}) {
		t.Errorf("%+v", r.Notes)
	}
}

// R6: two locks have nothing in common, and the same steps on the same words do the same.
func TestTwoLocks(t *testing.T) {
	for _, op := range []int{api.Lock, api.RLock, api.TryLock} {
		one, two := lock(t, 2, 3), lock(t, 2, 3)
		first := two.All()
		a, b := begun(one, 2, api.Parked, 0, op), begun(two, 2, api.Parked, 0, op)
		through(t, a)
		if !slices.Equal(two.All(), first) {
			t.Errorf("the operation %d: the second one is %x", op, two.All())
		}
		through(t, b)
		if a.Frame != b.Frame || !slices.Equal(one.All(), two.All()) {
			t.Errorf("the operation %d: %+v, %x, and %+v, %x", op, a.Frame, one.All(), b.Frame, two.All())
		}
	}
}
