package tf_test

import (
	"slices"
	"testing"

	"stileman/api"
	"stileman/cells"
	"stileman/line"
	"stileman/place"
	"stileman/tf"
)

// count is how many lines the operation has, by the chapter's table.
func count(op int) int {
	return map[int]int{api.RLock: 3, api.RUnlock: 1, api.Lock: 2, api.Unlock: 2, api.TryRLock: 4, api.TryLock: 3, api.TryUpgrade: 4, api.Downgrade: 1}[op]
}

// P10.1: of a nil run nothing is done.
func TestNilRun(t *testing.T) {
	tf.Lines(nil)
	var r *line.Run
	if r.Step(tf.Lines) {
		t.Error("a step of a nil run is over")
	}
}

// P10.1: of an operation, or a line, that isn't there nothing is done; a step tells no access and no notes, and is over, if a result was there ahead.
func TestNoLine(t *testing.T) {
	for _, op := range numbers() {
		for _, n := range numbers() {
			if n >= 0 && n < count(op) {
				continue
			}
			for _, mode := range append(spins(), api.Parked) {
				for _, ret := range []int{goes, no, yes} {
					l := marked(16, 7, 7, 7)
					m, _ := cells.From(l...)
					frame := api.Frame{Op: op, Line: n, A: 7, B: 6, Wait: api.Wait{Stage: 2}, Wake: api.Wake{Cell: 1, I: 1}, Ret: ret}
					r := line.Run{Mem: m, Map: place.Map{N: 2}, Mode: mode, Task: 1, Frame: frame}
					access, notes := api.Access{Kind: 4, Cell: 3, X: 2, Old: 1}, []api.Note{{Task: 1, What: 4}, {What: 8}}
					r.Access, r.Notes = access, slices.Clone(notes)
					tf.Lines(&r)
					if r.Frame != frame || r.Access != access || !slices.Equal(r.Notes, notes) {
						t.Fatalf("the line %d of the operation %d: %+v", n, op, r)
					}
					over := r.Step(tf.Lines)
					if r.Frame != frame || r.Access != (api.Access{}) || len(r.Notes) != 0 || over != (ret != goes) {
						t.Fatalf("the line %d of the operation %d: %v, %+v", n, op, over, r)
					}
					if all := m.All(); !slices.Equal(all, l) {
						t.Fatalf("the line %d of the operation %d: the cells are %x", n, op, all)
					}
				}
			}
		}
	}
}

// P10.1: of a nil memory, and of one without cells, no cell is there: what is loaded and added to is 0, and a cas hasn't found it.
func TestNoCells(t *testing.T) {
	empty, _ := cells.New(0)
	for _, x := range []struct {
		op, line int
		a        uint32
		notes    []api.Note
		to       int
		aThen    uint32
		ret      int
	}{
		{api.RLock, 0, 5, []api.Note{{What: api.NReg, Arg: 1}}, 1, 0, goes},
		{api.RLock, 1, 0, nil, 2, 0, goes},
		{api.RLock, 1, 5, nil, 1, 5, goes},
		{api.RLock, 2, 5, []api.Note{{What: api.NAdmit}}, 2, 5, yes},
		{api.RUnlock, 0, 5, []api.Note{{What: api.NRelease}}, 0, 5, yes},
		{api.Lock, 0, 5, []api.Note{{What: api.NReg, Arg: 2}}, 1, 0, goes},
		{api.Lock, 1, 0, []api.Note{{What: api.NAdmit}}, 1, 0, yes},
		{api.Lock, 1, 5, nil, 1, 5, goes},
		{api.Unlock, 0, 5, []api.Note{{What: api.NLeave}}, 1, 5, goes},
		{api.Unlock, 1, 5, []api.Note{{What: api.NPass}}, 1, 5, yes},
		{api.TryRLock, 0, 5, nil, 1, 0, goes},
		{api.TryRLock, 1, 0, nil, 2, 0, goes},
		{api.TryRLock, 1, 5, []api.Note{{What: api.NRefuse}}, 1, 5, no},
		{api.TryRLock, 2, 0, nil, 0, 0, goes},
		{api.TryRLock, 3, 5, []api.Note{{What: api.NAdmit}}, 3, 5, yes},
		{api.TryLock, 1, top, nil, 0, top, goes},
		{api.TryLock, 2, 0, nil, 0, 0, goes},
		{api.TryUpgrade, 1, 0, nil, 0, 0, goes},
		{api.TryUpgrade, 1, 1, nil, 2, 1, goes},
		{api.TryUpgrade, 1, 2, []api.Note{{What: api.NRefuse}}, 1, 2, no},
		{api.TryUpgrade, 2, 0, nil, 0, 0, goes},
		{api.TryUpgrade, 3, 5, nil, 3, 5, yes},
		{api.Downgrade, 0, 5, []api.Note{{What: api.NDown}}, 0, 5, yes},
	} {
		for _, m := range []*cells.Memory{nil, empty} {
			r := line.Run{Mem: m, Map: place.Map{N: 2}, Mode: api.Spin, Frame: api.Frame{Op: x.op, Line: x.line, A: x.a}}
			over := r.Step(tf.Lines)
			want := api.Frame{Op: x.op, Line: x.to, A: x.aThen, Ret: x.ret}
			if r.Frame != want || over != (x.ret != goes) || r.Access != (api.Access{}) || !slices.Equal(r.Notes, x.notes) {
				t.Errorf("%+v: %v, %+v", x, over, r)
			}
		}
	}
}

// P10.1: a task that isn't there, of any number of tasks: its notes tell it, and only the lock's own cells are touched.
func TestNoTask(t *testing.T) {
	for _, n := range append(counts(), noCounts()...) {
		for _, task := range noTasks(n) {
			for _, mode := range modes() {
				l := marked(size(n), 7, 7, 7)
				m, _ := cells.From(l...)
				for _, ops := range [][]int{{api.RLock, api.RUnlock}, {api.TryLock, api.Unlock}, {api.Lock, api.Downgrade, api.TryUpgrade, api.Unlock}} {
					for _, op := range ops {
						r := begun(m, n, mode, task, op)
						for i := 0; !r.Step(tf.Lines); i++ {
							for _, x := range r.Notes {
								if x.Task != task {
									t.Fatalf("the task %d of %d notes %+v", task, n, x)
								}
							}
							if i > 400 {
								t.Fatalf("the task %d of %d: %+v", task, n, r)
							}
						}
						if r.Frame.Ret != yes {
							t.Errorf("the task %d of %d: %+v", task, n, r.Frame)
						}
					}
				}
				if ownOf(m) != (own{11, 11, 11}) {
					t.Errorf("the task %d of %d: %x", task, n, ownOf(m))
				}
				rest(t, m, l)
			}
		}
	}
}

// R4: notes that were handed out stay as they are, whatever is done then, and one may write them over.
func TestNotesStay(t *testing.T) {
	m := lock(t, 2, 0)
	r := begun(m, 2, api.Spin, 1, api.TryLock)
	through(t, r)
	l := r.Notes
	want := []api.Note{{Task: 1, What: api.NReg, Arg: api.HoldWrite}, {Task: 1, What: api.NAdmit}}
	r.Frame = api.Frame{Op: api.Unlock}
	r.Step(tf.Lines)
	if !slices.Equal(l, want) {
		t.Errorf("%+v", l)
	}
	l[0].Task = 50
	if !slices.Equal(r.Notes, []api.Note{{Task: 1, What: api.NLeave}}) {
		t.Errorf("%+v", r.Notes)
	}
}

// R6: two locks have nothing in common, and the same steps on the same words do the same.
func TestTwoLocks(t *testing.T) {
	one, two := lock(t, 2, 3), lock(t, 2, 3)
	a, b := begun(one, 2, api.Parked, 0, api.Lock), begun(two, 2, api.Parked, 0, api.Lock)
	through(t, a)
	if ownOf(two) != (own{3, 3, 3}) {
		t.Errorf("the second one is %x", ownOf(two))
	}
	through(t, b)
	if a.Frame != b.Frame || ownOf(one) != ownOf(two) {
		t.Errorf("%+v, %x, and %+v, %x", a.Frame, ownOf(one), b.Frame, ownOf(two))
	}
}
