package pf_test

import (
	"slices"
	"testing"

	"stileman/api"
	"stileman/cells"
	"stileman/line"
	"stileman/pf"
	"stileman/place"
)

// isThere tells whether the operation has the line, by the chapter's table.
func isThere(op, n int) bool {
	last := map[int]int{api.RLock: 1, api.RUnlock: 0, api.Lock: 4, api.Unlock: 3, api.TryRLock: 1, api.TryLock: 9, api.TryUpgrade: 9, api.Downgrade: 3}
	to, ok := last[op]
	return ok && n >= 0 && n <= to && (op != api.TryLock || n != 8)
}

// P11.1: of a nil run nothing is done.
func TestNilRun(t *testing.T) {
	pf.Lines(nil)
	var r *line.Run
	if r.Step(pf.Lines) {
		t.Error("a step of a nil run is over")
	}
}

// P11.1: of an operation, or a line, that isn't there nothing is done; a step tells no access and no notes, and is over, if a result was there ahead.
func TestNoLine(t *testing.T) {
	for _, op := range numbers() {
		for _, n := range append(numbers(), 6, 7) {
			if isThere(op, n) {
				continue
			}
			for _, mode := range append(spins(), api.Parked) {
				for _, ret := range []int{goes, no, yes} {
					l := marked(16, own{0x700, 0x700, 7, 7, 7})
					m, _ := cells.From(l...)
					frame := api.Frame{Op: op, Line: n, A: 7, B: 6, Wait: api.Wait{Stage: 2}, Wake: api.Wake{Cell: 1, I: 1}, Ret: ret}
					r := line.Run{Mem: m, Map: place.Map{N: 2}, Mode: mode, Task: 1, Frame: frame}
					access, notes := api.Access{Kind: 4, Cell: 3, X: 2, Old: 1}, []api.Note{{Task: 1, What: 4}, {What: 8}}
					r.Access, r.Notes = access, slices.Clone(notes)
					pf.Lines(&r)
					if r.Frame != frame || r.Access != access || !slices.Equal(r.Notes, notes) {
						t.Fatalf("the line %d of the operation %d: %+v", n, op, r)
					}
					over := r.Step(pf.Lines)
					if r.Frame != frame || r.Access != (api.Access{}) || len(r.Notes) != 0 || over != (ret != goes) {
						t.Fatalf("the line %d of the operation %d: %v, %+v", n, op, over, r)
					}
					if all := m.All(); !slices.Equal(all, l) {
						t.Fatalf("the line %d of the operation %d: the cells are %x", n, op, all)
					}
				}
			}
		}
	}
}

// P11.1: of a nil memory, and of one without cells, no cell is there: what is loaded and added to is 0, and a cas hasn't found it.
func TestNoCells(t *testing.T) {
	empty, _ := cells.New(0)
	for _, x := range []struct {
		op, line int
		a, b     uint32
		notes    []api.Note
		to       int
		aThen    uint32
		bThen    uint32
		ret      int
	}{
		{api.RLock, 0, 5, 6, []api.Note{{What: api.NReg, Arg: 1}, {What: api.NAdmit}}, 0, 0, 6, yes},
		{api.RLock, 1, 2, 6, []api.Note{{What: api.NAdmit}}, 1, 2, 6, yes},
		{api.RLock, 1, 3, 6, []api.Note{{What: api.NAdmit}}, 1, 3, 6, yes},
		{api.RLock, 1, 0x500, 6, nil, 1, 0x500, 6, goes},
		{api.RUnlock, 0, 5, 6, []api.Note{{What: api.NRelease}}, 0, 5, 6, yes},
		{api.Lock, 0, 5, 6, []api.Note{{What: api.NReg, Arg: 2}}, 1, 0, 6, goes},
		{api.Lock, 1, 0, 6, nil, 2, 0, 6, goes},
		{api.Lock, 1, 5, 6, nil, 1, 5, 6, goes},
		{api.Lock, 2, 5, 6, nil, 3, 5, 0, goes},
		{api.Lock, 3, 5, 6, []api.Note{{What: api.NPresent}}, 4, 0, 6, goes},
		{api.Lock, 4, 0, 6, []api.Note{{What: api.NAdmit}}, 4, 0, 6, yes},
		{api.Lock, 4, 5, 6, nil, 4, 5, 6, goes},
		{api.Unlock, 0, 5, 6, nil, 1, 5, 0, goes},
		{api.Unlock, 1, 5, 6, []api.Note{{What: api.NLeave}}, 2, 5, 6, goes},
		{api.Unlock, 2, 5, 6, nil, 3, 5, 6, goes},
		{api.Unlock, 3, 5, 6, []api.Note{{What: api.NPass}}, 3, 5, 6, yes},
		{api.TryRLock, 0, 5, 6, nil, 1, 0, 6, goes},
		{api.TryRLock, 1, 0, 6, nil, 0, 0, 6, goes},
		{api.TryLock, 0, 5, 6, nil, 1, 0, 6, goes},
		{api.TryLock, 1, 0, 6, nil, 2, 0, 0, goes},
		{api.TryLock, 1, 5, 6, []api.Note{{What: api.NRefuse}}, 1, 5, 0, no},
		{api.TryLock, 1, top, 6, nil, 0, top, 0, goes},
		{api.TryLock, 2, 0, 6, nil, 0, 0, 6, goes},
		{api.TryLock, 4, 256, 6, []api.Note{{What: api.NRefuse}}, 9, 256, 0, goes},
		{api.TryLock, 4, 0, 6, nil, 5, 0, 0, goes},
		{api.TryLock, 7, 0, 6, []api.Note{{What: api.NAdmit}}, 7, 0, 6, yes},
		{api.TryLock, 9, 5, 6, []api.Note{{What: api.NPass}}, 9, 5, 6, no},
		{api.TryUpgrade, 3, 5, 6, nil, 4, 0, 6, goes},
		{api.TryUpgrade, 4, 256, 6, nil, 5, 256, 0, goes},
		{api.TryUpgrade, 4, 257, 6, []api.Note{{What: api.NRefuse}}, 9, 257, 0, goes},
		{api.TryUpgrade, 5, 5, 6, nil, 6, 5, 0, goes},
		{api.TryUpgrade, 6, 5, 6, []api.Note{{What: api.NPresent}}, 7, 0, 6, goes},
		{api.TryUpgrade, 7, 256, 6, []api.Note{{What: api.NUp}}, 8, 256, 6, goes},
		{api.TryUpgrade, 7, 0, 6, nil, 7, 0, 6, goes},
		{api.TryUpgrade, 8, 5, 6, nil, 8, 5, 6, yes},
		{api.TryUpgrade, 9, 5, 6, []api.Note{{What: api.NPass}}, 9, 5, 6, no},
		{api.Downgrade, 0, 5, 6, nil, 1, 5, 0, goes},
		{api.Downgrade, 1, 5, 6, []api.Note{{What: api.NDown}}, 2, 5, 6, goes},
		{api.Downgrade, 2, 5, 6, nil, 3, 5, 6, goes},
		{api.Downgrade, 3, 5, 6, []api.Note{{What: api.NPass}}, 3, 5, 6, yes},
	} {
		for _, m := range []*cells.Memory{nil, empty} {
			r := line.Run{Mem: m, Map: place.Map{N: 2}, Mode: api.Spin, Frame: api.Frame{Op: x.op, Line: x.line, A: x.a, B: x.b}}
			over := r.Step(pf.Lines)
			want := api.Frame{Op: x.op, Line: x.to, A: x.aThen, B: x.bThen, Ret: x.ret}
			if r.Frame != want || over != (x.ret != goes) || r.Access != (api.Access{}) || !slices.Equal(r.Notes, x.notes) {
				t.Errorf("%+v: %v, %+v", x, over, r)
			}
		}
	}
}

// P11.1: a task that isn't there, of any number of tasks: its notes tell it, and only the lock's own cells are touched.
func TestNoTask(t *testing.T) {
	for _, n := range append(counts(), noCounts()...) {
		for _, task := range noTasks(n) {
			for _, mode := range append(spins(), api.Parked) {
				l := marked(size(n), own{0x700, 0x700, 7, 7, 7})
				m, _ := cells.From(l...)
				for _, x := range togethers() {
					for _, op := range x.ops {
						r := begun(m, n, mode, task, op)
						for i := 0; !r.Step(pf.Lines); i++ {
							for _, x := range r.Notes {
								if x.Task != task {
									t.Fatalf("the task %d of %d notes %+v", task, n, x)
								}
							}
							if i > 600 {
								t.Fatalf("the task %d of %d: %+v", task, n, r)
							}
						}
						if r.Frame.Ret != yes {
							t.Errorf("the task %d of %d: %+v", task, n, r.Frame)
						}
					}
				}
				if ownOf(m) != counted(7, 10, 10, 10) {
					t.Errorf("the task %d of %d: %x", task, n, ownOf(m))
				}
				rest(t, m, l)
			}
		}
	}
}

// R4: notes that were handed out stay as they are, whatever is done then, and one may write them over.
func TestNotesStay(t *testing.T) {
	m := lock(t, 2, 0)
	r := begun(m, 2, api.Spin, 1, api.TryRLock)
	through(t, r)
	l := r.Notes
	want := []api.Note{{Task: 1, What: api.NReg, Arg: api.HoldRead}, {Task: 1, What: api.NAdmit}}
	r.Frame = api.Frame{Op: api.RUnlock}
	r.Step(pf.Lines)
	if !slices.Equal(l, want) {
		t.Errorf("%+v", l)
	}
	l[0].Task = 50
	if !slices.Equal(r.Notes, []api.Note{{Task: 1, What: api.NRelease}}) {
		t.Errorf("%+v", r.Notes)
	}
}

// R6: two locks have nothing in common, and the same steps on the same words do the same.
func TestTwoLocks(t *testing.T) {
	one, two := lock(t, 2, 3), lock(t, 2, 3)
	a, b := begun(one, 2, api.Parked, 0, api.Lock), begun(two, 2, api.Parked, 0, api.Lock)
	through(t, a)
	if ownOf(two) != counted(3, 0, 0, 0) {
		t.Errorf("the second one is %x", ownOf(two))
	}
	through(t, b)
	if a.Frame != b.Frame || ownOf(one) != ownOf(two) {
		t.Errorf("%+v, %x, and %+v, %x", a.Frame, ownOf(one), b.Frame, ownOf(two))
	}
}
