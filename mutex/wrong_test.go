package mutex_test

import (
	"slices"
	"testing"

	"stileman/api"
	"stileman/cells"
	"stileman/line"
	"stileman/mutex"
	"stileman/place"
)

// P12.3: of a nil run: false, whatever is asked for.
func TestNilRun(t *testing.T) {
	for _, tail := range tails() {
		for _, n := range lines() {
			if mutex.Enter(nil, tail, n) || mutex.Give(nil, tail, n) || mutex.Give(nil, tail, n, api.NPass, n) {
				t.Errorf("a nil run is in, or has given on: %d, %d", tail, n)
			}
			if done, in := mutex.Try(nil, tail, n); done || in {
				t.Errorf("the try of a nil run: %v, %v", done, in)
			}
		}
	}
}

// P12.1, P12.2: on lines that aren't there nothing is done, and false is answered; an access, notes, a result and a wake-up that are there stay.
func TestNoLine(t *testing.T) {
	for _, a := range append(firsts(), lines()...) {
		for _, by := range append(lines(), -5) {
			for _, mode := range append(spins(), api.Parked) {
				for what, last := range map[int]int{enters: 4, gives: 3, tries: 1} {
					first := a
					if what == enters {
						first = 0
					}
					n := first + by
					if d := n - first; d >= 0 && d <= last {
						continue
					}
					m := memory(3, set{0: 2, 9: 3, 12: 1, 15: 13})
					l := m.All()
					r := line.Run{Mem: m, Map: place.Map{N: 3}, Mode: mode, Task: 1}
					r.Frame = api.Frame{Op: 3, Line: n, A: 3, B: 4, Wait: api.Wait{Stage: 2}, Wake: api.Wake{On: true, Cell: 1, I: 1}, Ret: 2}
					r.Access, r.Notes = api.Access{Kind: 4, Cell: 3, X: 2, Old: 1}, []api.Note{{Task: 1, What: 4}, {What: 8}}
					was := r
					was.Notes = slices.Clone(r.Notes)
					done, in := call{what: what, tail: 0, class: 2, a: first, notes: []int{api.NPass}}.does(&r)
					if done || in || r.Frame != was.Frame || r.Access != was.Access || !slices.Equal(r.Notes, was.Notes) {
						t.Fatalf("%d, the line %d from %d on: %v, %v, %+v", what, n, first, done, in, r)
					}
					if all := m.All(); !slices.Equal(all, l) {
						t.Fatalf("%d, the line %d from %d on: the cells are %x", what, n, first, all)
					}
				}
			}
		}
	}
}

// bare is a line, with A, on a run whose cells aren't there: A and the line behind it, the notes, the cell of the wake-up that begins, and what is answered.
type bare struct {
	what, line int
	a, aThen   uint32
	to         int
	notes      []api.Note
	wake       int
	done, in   bool
}

// bares are all lines that don't wait, and, as what isn't there is 0, those that do, at their first look. Those of Give and Try are counted from 6.
func bares() []bare {
	reg, pass := []api.Note{{Task: 1, What: api.NReg, Arg: api.HoldRead}}, []api.Note{{Task: 1, What: api.NPass}}
	return []bare{
		{enters, 0, 5, 5, 1, nil, none, false, false},
		{enters, 1, 5, 5, 2, nil, none, false, false},
		{enters, 2, 5, 0, 2, reg, none, true, false},
		{enters, 3, 1, 1, 4, nil, 8, false, false},
		{enters, 3, 0, 0, 4, nil, -1, false, false},
		{enters, 3, 3, 3, 4, nil, -1, false, false},
		{enters, 4, 5, 5, 4, nil, none, true, false},
		{gives, 6, 5, 0, 7, nil, none, false, false},
		{gives, 7, 5, 5, 8, nil, none, false, false},
		{gives, 8, 5, 5, 8, nil, none, false, false},
		{gives, 9, 1, 1, 9, pass, 10, true, false},
		{gives, 9, 0, 0, 9, pass, -1, true, false},
		{gives, 9, top, top, 9, pass, -1, true, false},
		{tries, 6, 5, 5, 7, nil, none, false, false},
		{tries, 7, 5, 5, 7, nil, none, true, false},
	}
}

// P12.1, P12.2: of a nil memory, and of one without cells, no cell is there: what is loaded and swapped is 0, so that who enters is in at once, and a cas hasn't found it; no access is told.
func TestNoCells(t *testing.T) {
	empty, _ := cells.New(0)
	for _, x := range bares() {
		for _, m := range []*cells.Memory{nil, empty} {
			for _, mode := range modes() {
				r := line.Run{Mem: m, Map: place.Map{N: 2}, Mode: mode, Task: 1, Frame: api.Frame{Line: x.line, A: x.a, B: 9}}
				done, in := call{what: x.what, tail: 0, class: api.HoldRead, a: 6, notes: []int{api.NPass}}.does(&r)
				want := api.Frame{Line: x.to, A: x.aThen, B: 9}
				if mode == api.Parked && x.wake != none {
					want.Wake = api.Wake{On: true, Cell: x.wake}
				}
				if mode == api.Parked && x.what == gives && x.line == 8 {
					want.Wait.Stage = 1
				}
				if done != x.done || in != x.in || r.Frame != want || r.Access != (api.Access{}) || !slices.Equal(r.Notes, x.notes) {
					t.Errorf("%+v in the mode %d: %v, %v, %+v", x, mode, done, in, r)
				}
			}
		}
	}
}

// P12.1, P12.2: of a tail that isn't there who enters is in at once, who gives on waits for somebody behind it, and who tries isn't in; no cell of another one's is touched.
func TestNoTail(t *testing.T) {
	for _, tail := range []int{-1, -2, 16, 17, 1 << 32, -1 << 63, 1<<63 - 1} {
		for _, mode := range append(spins(), api.Parked) {
			m, _ := cells.From(marked(16)...)
			l := m.All()
			r := line.Run{Mem: m, Map: place.Map{N: 2}, Mode: mode, Task: 1, Frame: api.Frame{Line: 2, A: 5}}
			if !mutex.Enter(&r, tail, 1) || r.Frame != (api.Frame{Line: 2}) || r.Access != (api.Access{}) || len(r.Notes) != 1 {
				t.Errorf("who enters by the tail %d: %+v", tail, r)
			}
			r = line.Run{Mem: m, Map: place.Map{N: 2}, Mode: mode, Task: 1, Frame: api.Frame{Line: 7, A: 5}}
			if mutex.Give(&r, tail, 6, api.NPass) || r.Frame != (api.Frame{Line: 8, A: 5}) || r.Access != (api.Access{}) || len(r.Notes) != 0 {
				t.Errorf("who gives on by the tail %d: %+v", tail, r)
			}
			r.Frame.Line = 7
			if done, in := mutex.Try(&r, tail, 6); !done || in || r.Frame != (api.Frame{Line: 7, A: 5}) || r.Access != (api.Access{}) {
				t.Errorf("who tries by the tail %d: %v, %v, %+v", tail, done, in, r)
			}
			if all := m.All(); !slices.Equal(all, l) {
				t.Errorf("the tail %d: the cells are %x", tail, all)
			}
		}
	}
}

// P12.1, P12.2: a task that isn't there, of any number of tasks, has no cells: the tail alone is touched, by its number, and 1 more, as a word.
func TestNoTask(t *testing.T) {
	for _, n := range append(counts(), noCounts()...) {
		for _, task := range noTasks(n) {
			number := uint32(task) + 1
			for _, mode := range append(spins(), api.Parked) {
				for _, by := range []int{enters, tries} {
					m, _ := cells.From(marked(size(n))...)
					m.Store(2, 0)
					l := m.All()
					r := line.Run{Mem: m, Map: place.Map{N: n}, Mode: mode, Task: task}
					got := whole(t, &r, call{what: by, tail: 2, class: api.HoldWrite})
					if m.Load(2) != number || !got {
						t.Fatalf("the task %d of %d: %v, the tail is %x", task, n, got, m.Load(2))
					}
					if by == enters && !slices.Equal(r.Notes, []api.Note{{Task: task, What: api.NReg, Arg: api.HoldWrite}}) {
						t.Fatalf("the task %d of %d notes %+v", task, n, r.Notes)
					}
					r.Frame = api.Frame{}
					if !whole(t, &r, call{what: gives, tail: 2, notes: []int{api.NLeave}}) || !slices.Equal(r.Notes, []api.Note{{Task: task, What: api.NLeave}}) {
						t.Fatalf("the task %d of %d notes %+v", task, n, r.Notes)
					}
					if all := m.All(); !slices.Equal(all, l) {
						t.Fatalf("the task %d of %d: the cells are %x", task, n, all)
					}
				}
			}
		}
	}
}

// whole does all steps of the call, and answers whether it ends with true.
func whole(t *testing.T, r *line.Run, c call) (yes bool) {
	t.Helper()
	for range 20 {
		if r.Step(func(r *line.Run) {
			if done, in := c.does(r); done {
				r.End(c.what != tries || in)
			}
		}) {
			return r.Frame.Ret == api.RetTrue
		}
	}
	t.Fatalf("%+v doesn't end: %+v", c, r.Frame)
	return false
}

// P12.1: an A that names a task that isn't there: it has no cell, and so nothing is stored, and no task gets in; the wake-up that begins is that of no cell.
func TestNobodyThere(t *testing.T) {
	for _, n := range append(counts(), noCounts()...) {
		for _, a := range []uint32{0, uint32(max(n, 0)) + 1, 65, 66, half, top} {
			if a > 0 && int(a) <= n && n <= api.MaxTasks {
				continue // it names one that is there
			}
			for _, mode := range modes() {
				m, _ := cells.From(marked(size(n))...)
				l := m.All()
				want := api.Frame{Line: 4, A: a}
				if mode == api.Parked {
					want.Wake = api.Wake{On: true, Cell: -1}
				}
				r := line.Run{Mem: m, Map: place.Map{N: n}, Mode: mode, Frame: api.Frame{Line: 3, A: a}}
				if mutex.Enter(&r, 0, 1) || r.Frame != want || r.Access != (api.Access{}) || len(r.Notes) != 0 {
					t.Errorf("who enters behind %d, of %d: %+v", a, n, r)
				}
				want.Line = 9
				r.Frame = api.Frame{Line: 9, A: a}
				if !mutex.Give(&r, 0, 6) || r.Frame != want || r.Access != (api.Access{}) || len(r.Notes) != 0 {
					t.Errorf("who gives on to %d, of %d: %+v", a, n, r)
				}
				if all := m.All(); !slices.Equal(all, l) {
					t.Errorf("%d, of %d: the cells are %x", a, n, all)
				}
			}
		}
	}
}

// R6: two queues have nothing in common, in two memories, or in two cells of one for tasks that aren't in both.
func TestTwoQueues(t *testing.T) {
	for _, mode := range modes() {
		x, y := gather(t, 2, mode, 0), gather(t, 2, mode, 0)
		x.begin(0, enters)
		x.ends(0)
		y.left()
		y.begin(1, tries)
		y.ends(1)
		if x.in != 0 || y.in != 1 || x.m.Load(0) != 1 || y.m.Load(0) != 2 {
			t.Errorf("in the mode %d: %+v, %+v", mode, x.ledger, y.ledger)
		}
		r := line.Run{Mem: x.m, Map: place.Map{N: 2}, Mode: mode, Task: 1}
		x.m.Store(5, 0)
		if !whole(t, &r, call{what: enters, tail: 5, class: 1}) || x.m.Load(0) != 1 || x.m.Load(5) != 2 {
			t.Errorf("in the mode %d: %x", mode, x.m.All())
		}
	}
}
