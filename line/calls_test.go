package line_test

import (
	"slices"
	"testing"

	"stileman/api"
	"stileman/cells"
	"stileman/line"
	"stileman/place"
)

// accesses are a call of each kind on the cell c.
func accesses(c int, x, y uint32) []act {
	return []act{
		{call: "load", n: c},
		{call: "store", n: c, x: x},
		{call: "add", n: c, x: x},
		{call: "swap", n: c, x: x},
		{call: "cas", n: c, x: x, y: y},
	}
}

// calls are a call of each kind that isn't an access, of a number n.
func calls(n int) []act {
	return []act{
		{call: "note", n: n, m: n + 1},
		{call: "go", n: n},
		{call: "end", ok: n%2 == 0},
		{call: "wake", n: n},
	}
}

// P9.1: each access by itself: what it answers, the run's access, and the word then.
func TestAccesses(t *testing.T) {
	for _, x := range []struct {
		a    act
		was  uint32
		want answer
		done api.Access
		left uint32
	}{
		{act{call: "load"}, 6, answer{word: 6}, api.Access{Kind: 1, Old: 6}, 6},
		{act{call: "load"}, 0, answer{}, api.Access{Kind: 1}, 0},
		{act{call: "load"}, top, answer{word: top}, api.Access{Kind: 1, Old: top}, top},
		{act{call: "store", x: 5}, 6, answer{}, api.Access{Kind: 2, X: 5, Old: 6}, 5},
		{act{call: "store"}, top, answer{}, api.Access{Kind: 2, Old: top}, 0},
		{act{call: "store", x: top}, 0, answer{}, api.Access{Kind: 2, X: top}, top},
		{act{call: "add", x: 5}, 6, answer{word: 6}, api.Access{Kind: 3, X: 5, Old: 6}, 11},
		{act{call: "add", x: 2}, top, answer{word: top}, api.Access{Kind: 3, X: 2, Old: top}, 1},
		{act{call: "add", x: top}, 0, answer{}, api.Access{Kind: 3, X: top}, top},
		{act{call: "swap", x: 5}, 6, answer{word: 6}, api.Access{Kind: 4, X: 5, Old: 6}, 5},
		{act{call: "swap"}, top, answer{word: top}, api.Access{Kind: 4, Old: top}, 0},
		{act{call: "swap", x: top}, 0, answer{}, api.Access{Kind: 4, X: top}, top},
		{act{call: "cas", x: 6, y: 5}, 6, answer{yes: true}, api.Access{Kind: 5, X: 6, Y: 5, Old: 6}, 5},
		{act{call: "cas", x: 6, y: 6}, 6, answer{yes: true}, api.Access{Kind: 5, X: 6, Y: 6, Old: 6}, 6},
		{act{call: "cas", x: 5, y: 6}, 6, answer{}, api.Access{Kind: 5, X: 5, Y: 6, Old: 6}, 6},
		{act{call: "cas", x: 0, y: 5}, 6, answer{}, api.Access{Kind: 5, X: 0, Y: 5, Old: 6}, 6},
		{act{call: "cas", x: 0, y: top}, 0, answer{yes: true}, api.Access{Kind: 5, X: 0, Y: top}, top},
		{act{call: "cas", x: top}, top, answer{yes: true}, api.Access{Kind: 5, X: top, Old: top}, 0},
		{act{call: "cas", x: top, y: 1}, 0, answer{}, api.Access{Kind: 5, X: top, Y: 1}, 0},
	} {
		for _, c := range []int{0, 3, 15} {
			m, _ := cells.New(16)
			m.Store(c, x.was)
			r := line.Run{Mem: m, Map: place.Map{N: 2}}
			x.a.n, x.done.Cell = c, c
			if got := x.a.on(&r); got != x.want || r.Access != x.done {
				t.Errorf("%+v of %d: %+v, %+v, want %+v, %+v", x.a, x.was, got, r.Access, x.want, x.done)
			}
			left := make([]uint32, 16)
			left[c] = x.left
			if got := m.All(); !slices.Equal(got, left) {
				t.Errorf("%+v of %d: the cells are %v", x.a, x.was, got)
			}
			if r.Frame != (api.Frame{}) || len(r.Notes) != 0 {
				t.Errorf("%+v of %d: %+v, %v", x.a, x.was, r.Frame, r.Notes)
			}
		}
	}
}

// P9.1: each access of each cell up to the last one, in both modes, whoever the task is.
func TestAccessesOfAllCells(t *testing.T) {
	for _, n := range counts() {
		w := whole(t, n)
		for c := range w.words {
			for _, mode := range []int{api.Spin, api.Parked} {
				w.at(mode, c%n)
				w.does(t, accesses(c, uint32(c), top)...)
				w.does(t, accesses(c, w.words[c], uint32(c))...)
			}
		}
	}
}

// P9.1: whatever the word is, and what is stored, added or expected.
func TestAccessesOfWords(t *testing.T) {
	w := whole(t, 1)
	for _, was := range words() {
		for _, x := range words() {
			for _, y := range words() {
				for _, a := range accesses(11, x, y) {
					w.set(11, was)
					w.does(t, a)
				}
			}
		}
	}
}

// P9.1: of a cell that isn't there nothing is done, and the run's access is a zero one, whatever it was ahead.
func TestAccessesOfNoCell(t *testing.T) {
	for _, n := range counts() {
		w := whole(t, n)
		for _, c := range noCells(8 + 4*n) {
			for _, x := range []uint32{0, 1, top} {
				for _, a := range accesses(c, x, 7) {
					w.does(t, act{call: "add", n: 7, x: 1})
					w.does(t, a)
					if w.r.Access != (api.Access{}) {
						t.Fatalf("%+v: %+v", a, w.r.Access)
					}
				}
			}
		}
	}
}

// P9.1: a Cas that expects 0 of a cell that isn't there hasn't found it.
func TestCasOfNoCell(t *testing.T) {
	m, _ := cells.New(1)
	for _, r := range []*line.Run{{Mem: m}, {}} {
		for _, c := range []int{1, -1, 1024} {
			if r.Cas(c, 0, 0) || r.Cas(c, 0, 5) {
				t.Errorf("of the cell %d: true", c)
			}
		}
	}
}

// P9.1: of a nil memory no cell is there; the other calls are done all the same.
func TestCallsOfNilMemory(t *testing.T) {
	for _, n := range []int{1, 2, 64, 0, -1} {
		w := bare(n)
		for _, mode := range []int{api.Spin, api.Parked, 0} {
			w.at(mode, 0)
			for _, c := range append(noCells(8), 0, 1, 8, 11) {
				w.does(t, accesses(c, 0, 5)...)
				w.does(t, calls(c)...)
			}
			for _, stage := range stages() {
				for _, is := range asks() {
					w.r.Frame.Wait.Stage = stage
					w.tells()
					w.does(t, act{call: "wait", n: 0, is: is})
				}
			}
		}
	}
}

// P9.1: of a memory of fewer cells those that it has are touched alone.
func TestCallsOfFewerCells(t *testing.T) {
	for _, n := range []int{1, 2, 64} {
		for _, size := range []int{0, 1, 8, 8 + 2*n, 8 + 2*n + 1, 8 + 3*n, 8 + 4*n - 1} {
			for _, task := range []int{0, n - 1} {
				w := marked(t, n, size)
				w.at(api.Parked, task)
				for _, c := range []int{0, 7, size - 1, size, 8 + 4*n - 1} {
					w.does(t, accesses(c, 0, 5)...)
					w.waitsAtAll(t, c)
				}
			}
		}
	}
}

// waitsAtAll does a step of waiting for the cell c from each stage, by each function.
func (w *twin) waitsAtAll(t *testing.T, c int) {
	t.Helper()
	for _, stage := range stages() {
		for _, is := range asks() {
			w.r.Frame.Wait.Stage = stage
			w.tells()
			w.does(t, act{call: "wait", n: c, is: is})
		}
	}
}

// P9.1: the rows of waiting, of the second one of two tasks (its watch is the cell 13, its permit the cell 15), which waits until the cell 3 is 7.
func TestWait(t *testing.T) {
	load := func(old uint32) api.Access { return api.Access{Kind: api.ALoad, Cell: 3, Old: old} }
	for _, x := range []struct {
		mode, stage         int
		cell, watch, permit uint32
		next                int
		a                   api.Access
		seen, done          bool
		watchThen           uint32
		permitThen          uint32
	}{
		{api.Spin, 0, 7, 9, 1, 0, load(7), true, true, 9, 1},
		{api.Spin, 0, 6, 9, 1, 0, load(6), false, false, 9, 1},
		{api.Spin, 3, 7, 9, 1, 0, load(7), true, true, 9, 1},
		{api.Spin, 4, 6, 9, 1, 0, load(6), false, false, 9, 1},
		{api.Parked, 0, 7, 9, 1, 0, load(7), true, true, 9, 1},
		{api.Parked, 0, 6, 9, 1, 1, load(6), false, false, 9, 1},
		{api.Parked, 1, 7, 9, 1, 2, api.Access{Kind: api.AStore, Cell: 13, X: 4, Old: 9}, false, false, 4, 1},
		{api.Parked, 1, 6, 0, 0, 2, api.Access{Kind: api.AStore, Cell: 13, X: 4}, false, false, 4, 0},
		{api.Parked, 2, 7, 4, 1, 4, load(7), true, false, 4, 1},
		{api.Parked, 2, 6, 4, 1, 3, load(6), false, false, 4, 1},
		{api.Parked, 3, 7, 4, 1, 2, api.Access{Kind: api.ASwap, Cell: 15, Old: 1}, false, false, 4, 0},
		{api.Parked, 3, 6, 4, top, 2, api.Access{Kind: api.ASwap, Cell: 15, Old: top}, false, false, 4, 0},
		{api.Parked, 3, 7, 4, 0, 3, api.Access{}, false, false, 4, 0},
		{api.Parked, 4, 6, 4, 1, 0, api.Access{Kind: api.AStore, Cell: 13, Old: 4}, false, true, 0, 1},
		{api.Parked, 5, 6, 9, 1, 1, load(6), false, false, 9, 1},
		{api.Parked, -1, 7, 9, 1, 0, load(7), true, true, 9, 1},
		{0, 3, 7, 9, 1, 0, load(7), true, true, 9, 1},
		{3, 1, 6, 9, 1, 0, load(6), false, false, 9, 1},
	} {
		m, _ := cells.New(16)
		m.Store(3, x.cell)
		m.Store(13, x.watch)
		m.Store(15, x.permit)
		frame := api.Frame{Op: 3, Line: 1, A: 5, B: 6, Wait: api.Wait{Stage: x.stage}}
		r := line.Run{Mem: m, Map: place.Map{N: 2}, Mode: x.mode, Task: 1, Frame: frame, Access: api.Access{Kind: 3, X: 8}}
		seen, done := r.Wait(3, func(v uint32) bool { return v == 7 })
		frame.Wait.Stage = x.next
		if seen != x.seen || done != x.done || r.Frame != frame || r.Access != x.a || len(r.Notes) != 0 {
			t.Errorf("%+v: %v, %v, %+v, %+v, %v", x, seen, done, r.Frame, r.Access, r.Notes)
		}
		want := make([]uint32, 16)
		want[3], want[13], want[15] = x.cell, x.watchThen, x.permitThen
		if got := m.All(); !slices.Equal(got, want) {
			t.Errorf("%+v: the cells are %v, want %v", x, got, want)
		}
	}
}

// P9.1: a step of waiting from each stage, also one that isn't one, in all modes, of all tasks, and of those that aren't there, for cells that are there and not.
func TestWaitOfAll(t *testing.T) {
	for _, n := range counts() {
		w := whole(t, n)
		for _, task := range append(noTasks(n), 0, n/2, n-1) {
			for _, mode := range append(spins(), api.Parked) {
				w.at(mode, task)
				for _, c := range []int{0, 7, 8 + 4*n - 1, 8 + 4*n, -1} {
					w.set(permit(n, task), uint32(n))
					w.set(c, 0)
					w.waitsAtAll(t, c)
				}
			}
		}
	}
}

// P9.1: of a map for a number of tasks that no lock has, a cell may be waited for, but no watch and no permit is touched.
func TestWaitOfNoMap(t *testing.T) {
	for _, n := range noCounts() {
		w := marked(t, n, api.MaxCells)
		for _, task := range []int{0, 1, 63, n - 1, n} {
			w.at(api.Parked, task)
			w.waitsAtAll(t, 5)
			w.waitsAtAll(t, -1)
		}
	}
}

// P9.1: what the function keeps in the frame stays there; it is asked once, of the word that was loaded.
func TestWaitKeeps(t *testing.T) {
	for _, mode := range []int{api.Spin, api.Parked} {
		for _, stage := range []int{0, 2} {
			for _, yes := range []bool{false, true} {
				w := whole(t, 2)
				w.r.Mode, w.r.Frame.Wait.Stage = mode, stage
				w.tells()
				var asked []uint32
				want := w.want.Frame
				seen, _ := w.r.Wait(6, func(v uint32) bool {
					asked = append(asked, v)
					w.r.Frame.A, w.r.Frame.B, w.r.Frame.Line = v, 1, 2
					return yes
				})
				want.A, want.B, want.Line, want.Wait = 0xabc006, 1, 2, w.r.Frame.Wait
				if seen != yes || w.r.Frame != want || !slices.Equal(asked, []uint32{0xabc006}) {
					t.Errorf("the mode %d, the stage %d: %v, %+v, of %x, want %+v", mode, stage, seen, w.r.Frame, asked, want)
				}
			}
		}
	}
}

// P9.1: of several accesses in a row the run's is the last one's, be that a zero one.
func TestLastAccess(t *testing.T) {
	w := whole(t, 2)
	park := act{call: "wait", n: 0, is: never}
	all := append(accesses(0, 3, 4), accesses(-1, 3, 4)...)
	all = append(all, park)
	for _, a := range all {
		for _, b := range all {
			w.r.Frame.Wait.Stage = 3
			w.set(permit(2, 0), 0)
			w.tells()
			w.does(t, a, b)
		}
	}
	w.steps(t, act{call: "add", n: 1, x: 2}, act{call: "swap", n: 2, x: 3})
	if w.r.Access != (api.Access{Kind: api.ASwap, Cell: 2, X: 3, Old: 0xabc002}) {
		t.Error(w.r.Access)
	}
	w.steps(t, act{call: "add", n: 1, x: 2}, park)
	if w.r.Access != (api.Access{}) {
		t.Error(w.r.Access)
	}
}

// P9.1: each note is one more, behind those that are there, of the task.
func TestNote(t *testing.T) {
	r := line.Run{Task: 63}
	r.Note(api.NReg, api.HoldWrite)
	r.Note(api.NAdmit, 0)
	r.Note(api.NAdmit, 0)
	want := []api.Note{{Task: 63, What: 2, Arg: 2}, {Task: 63, What: 4}, {Task: 63, What: 4}}
	if !slices.Equal(r.Notes, want) || r.Access != (api.Access{}) || r.Frame != (api.Frame{}) {
		t.Errorf("%+v, want %+v", r, want)
	}
	for _, task := range append(noTasks(2), 0, 1) {
		w := whole(t, 2)
		w.at(api.Parked, task)
		for _, what := range append(numbers(), api.NCall, api.NReturn) {
			for _, arg := range numbers() {
				w.does(t, act{call: "note", n: what, m: arg})
			}
		}
	}
}

// P9.1, R4: notes that were told stay as they are; lists that are handed in are neither changed nor grown into.
func TestNoteNewMemory(t *testing.T) {
	long := []api.Note{{What: 1}, {What: 2}, {What: 3}, {What: 4}}
	r := line.Run{Notes: long[:2]}
	r.Note(api.NUp, 0)
	if !slices.Equal(long, []api.Note{{What: 1}, {What: 2}, {What: 3}, {What: 4}}) {
		t.Errorf("the list is %+v", long)
	}
	if !slices.Equal(r.Notes, []api.Note{{What: 1}, {What: 2}, {What: 9}}) {
		t.Errorf("the notes are %+v", r.Notes)
	}
	// Of each length, for room behind a list comes with some lengths alone.
	r = line.Run{}
	for i := range 40 {
		a, b := r, r
		a.Note(100, i)
		b.Note(200, i)
		r.Note(300, i)
		for j, s := range []line.Run{a, b, r} {
			if len(s.Notes) != i+1 || s.Notes[i] != (api.Note{What: 100 * (j + 1), Arg: i}) {
				t.Fatalf("behind %d notes, the copy %d: %+v", i, j, s.Notes)
			}
		}
	}
}

// P9.1: Go, whatever number it is.
func TestGo(t *testing.T) {
	for _, n := range numbers() {
		r := line.Run{Frame: api.Frame{Op: 1, Line: 5, A: 2, B: 3}}
		r.Go(n)
		if r.Frame != (api.Frame{Op: 1, Line: n, A: 2, B: 3}) {
			t.Errorf("Go(%d): %+v", n, r.Frame)
		}
		w := whole(t, 2)
		w.does(t, act{call: "go", n: n})
	}
}

// P9.1: End, whatever the result was ahead.
func TestEnd(t *testing.T) {
	for _, ret := range numbers() {
		r := line.Run{Frame: api.Frame{Op: 1, Line: 5, Ret: ret}}
		r.End(true)
		if r.Frame != (api.Frame{Op: 1, Line: 5, Ret: 2}) {
			t.Errorf("End(true): %+v", r.Frame)
		}
		r.Frame.Ret = ret
		r.End(false)
		if r.Frame != (api.Frame{Op: 1, Line: 5, Ret: 1}) {
			t.Errorf("End(false): %+v", r.Frame)
		}
	}
}

// P9.1: Wake: in the mode Parked one is on, from the task 0, of whatever cell, in all others none, whatever was on ahead.
func TestWake(t *testing.T) {
	for _, ahead := range []api.Wake{{}, {On: true, Cell: 9, I: 1, Hit: true}, {Cell: 3, I: 2}} {
		for _, c := range numbers() {
			w := whole(t, 2)
			w.r.Frame.Wake = ahead
			w.tells()
			w.does(t, act{call: "wake", n: c})
			if w.r.Frame.Wake != (api.Wake{On: true, Cell: c}) {
				t.Errorf("Wake(%d): %+v", c, w.r.Frame.Wake)
			}
			for _, mode := range spins() {
				w.r.Mode, w.r.Frame.Wake = mode, ahead
				w.tells()
				w.does(t, act{call: "wake", n: c})
				if w.r.Frame.Wake != (api.Wake{}) {
					t.Errorf("Wake(%d) in the mode %d: %+v", c, mode, w.r.Frame.Wake)
				}
			}
		}
	}
}
