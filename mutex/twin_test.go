package mutex_test

import (
	"math"
	"slices"
	"testing"

	"stileman/api"
	"stileman/cells"
	"stileman/line"
	"stileman/place"
)

// twin is a run, which does what the chapters tell by itself, over plain words.
type twin struct {
	words         []uint32 // nil: there is no memory
	n, mode, task int
	frame         api.Frame
	access        api.Access
	notes         []api.Note
}

// The rows of tasks' cells.
const (
	nexts = iota
	blockeds
	watches
	permits
)

// cell is the cell of the task i in the row; -1: it has none.
func (x *twin) cell(row, i int) int {
	if x.n < 1 || x.n > 64 || i < 0 || i >= x.n {
		return -1
	}
	return 8 + row*x.n + i
}

// do does an access, and answers what was there.
func (x *twin) do(kind, c int, v, y uint32) (was uint32) {
	x.access = api.Access{}
	if c < 0 || c >= len(x.words) {
		return 0
	}
	was = x.words[c]
	x.access = api.Access{Kind: kind, Cell: c, X: v, Y: y, Old: was}
	switch {
	case kind == api.AStore || kind == api.ASwap:
		x.words[c] = v
	case kind == api.ACas && was == v:
		x.words[c] = y
	}
	return was
}

// load answers the word of c.
func (x *twin) load(c int) uint32 { return x.do(api.ALoad, c, 0, 0) }

// store stores v in c.
func (x *twin) store(c int, v uint32) { x.do(api.AStore, c, v, 0) }

// cas stores y in c, if v is there.
func (x *twin) cas(c int, v, y uint32) bool {
	return x.do(api.ACas, c, v, y) == v && x.access != api.Access{}
}

// wait waits until the word of c is 0, or isn't; of a step that sees it the word is answered.
func (x *twin) wait(c int, zero bool) (v uint32, seen, done bool) {
	stage := &x.frame.Wait.Stage
	to := func(yes, no int) {
		v = x.load(c)
		seen = (v == 0) == zero
		*stage = no
		if seen {
			*stage = yes
		}
	}
	switch {
	case x.mode != api.Parked:
		to(0, 0)
		return v, seen, seen
	case *stage == 1:
		x.store(x.cell(watches, x.task), uint32(c)+1)
		*stage = 2
	case *stage == 2:
		to(4, 3)
	case *stage == 3:
		x.access = api.Access{}
		p := x.cell(permits, x.task)
		if p >= 0 && p < len(x.words) && x.words[p] != 0 {
			x.do(api.ASwap, p, 0, 0)
			*stage = 2
		}
	case *stage == 4:
		x.store(x.cell(watches, x.task), 0)
		*stage = 0
		return 0, false, true
	default:
		to(0, 1)
		return v, seen, seen
	}
	return v, seen, false
}

// wake begins a wake-up of c.
func (x *twin) wake(c int) {
	x.frame.Wake = api.Wake{}
	if x.mode == api.Parked {
		x.frame.Wake = api.Wake{On: true, Cell: c}
	}
}

// note notes it.
func (x *twin) note(what, arg int) {
	x.notes = append(x.notes, api.Note{Task: x.task, What: what, Arg: arg})
}

// enter does a line of entering.
func (x *twin) enter(tail, class int) bool {
	f, own := &x.frame, uint32(x.task+1)
	switch f.Line {
	case 0:
		x.store(x.cell(nexts, x.task), 0)
		f.Line = 1
	case 1:
		x.store(x.cell(blockeds, x.task), 1)
		f.Line = 2
	case 2:
		f.A = x.do(api.ASwap, tail, own, 0)
		x.note(api.NReg, class)
		if f.A == 0 {
			return true
		}
		f.Line = 3
	case 3:
		c := x.cell(nexts, int(f.A)-1)
		x.store(c, own)
		x.wake(c)
		f.Line = 4
	case 4:
		_, _, done := x.wait(x.cell(blockeds, x.task), true)
		return done
	}
	return false
}

// give does a line of giving on.
func (x *twin) give(tail, a int, notes []int) bool {
	f, given := &x.frame, false
	switch f.Line {
	case a:
		f.A = x.load(x.cell(nexts, x.task))
		f.Line = a + 1
		if f.A != 0 {
			f.Line = a + 3
		}
	case a + 1:
		given = x.cas(tail, uint32(x.task+1), 0)
		if !given {
			f.Line = a + 2
		}
	case a + 2:
		v, seen, done := x.wait(x.cell(nexts, x.task), false)
		if seen {
			f.A = v
		}
		if done {
			f.Line = a + 3
		}
	case a + 3:
		c := x.cell(blockeds, int(f.A)-1)
		x.store(c, 0)
		x.wake(c)
		given = true
	}
	for _, what := range notes {
		if given {
			x.note(what, 0)
		}
	}
	return given
}

// try does a line of a try.
func (x *twin) try(tail, a int) (done, in bool) {
	switch x.frame.Line {
	case a:
		x.store(x.cell(nexts, x.task), 0)
		x.frame.Line = a + 1
	case a + 1:
		return true, x.cas(tail, 0, uint32(x.task+1))
	}
	return false, false
}

// does does the call.
func (x *twin) does(c call) (done, in bool) {
	switch c.what {
	case enters:
		return x.enter(c.tail, c.class), false
	case gives:
		return x.give(c.tail, c.a, c.notes), false
	}
	return x.try(c.tail, c.a)
}

// run makes a run like x, with a memory of its own.
func (x *twin) run() *line.Run {
	r := line.Run{Map: place.Map{N: x.n}, Mode: x.mode, Task: x.task, Frame: x.frame, Access: x.access, Notes: slices.Clone(x.notes)}
	if x.words != nil {
		r.Mem, _ = cells.From(x.words...)
	}
	return &r
}

// holds does the call on a run and on its twin, which is handed over, and fails the test, unless they answer alike, and are alike.
func (x twin) holds(t *testing.T, c call) {
	t.Helper()
	x.words, x.notes = slices.Clone(x.words), slices.Clone(x.notes)
	r, was := x.run(), x
	was.words = slices.Clone(x.words)
	done, in := c.does(r)
	wantDone, wantIn := x.does(c)
	if done != wantDone || in != wantIn {
		t.Fatalf("%+v of %+v: %v, %v, want %v, %v", c, was, done, in, wantDone, wantIn)
	}
	if r.Frame != x.frame || r.Access != x.access || !slices.Equal(r.Notes, x.notes) {
		t.Fatalf("%+v of %+v: %+v, want %+v", c, was, r, x)
	}
	if r.Map != (place.Map{N: x.n}) || r.Mode != x.mode || r.Task != x.task || (r.Mem == nil) != (x.words == nil) {
		t.Fatalf("%+v of %+v: the run is %+v", c, was, r)
	}
	if l := r.Mem.All(); !slices.Equal(l, x.words) {
		t.Fatalf("%+v of %+v: the cells are %x, want %x", c, was, l, x.words)
	}
}

// all does all three calls with those arguments, on the line n and, of those that begin at a line a, on that which is as far behind it.
func (x twin) all(t *testing.T, n, tail, a int) {
	t.Helper()
	x.frame.Line = n
	x.holds(t, call{what: enters, tail: tail, class: api.HoldRead})
	x.frame.Line = a + n
	x.holds(t, call{what: gives, tail: tail, a: a, notes: []int{api.NAdmit, api.NPass}})
	x.holds(t, call{what: tries, tail: tail, a: a})
}

// marked are so many cells, each with a word of its own.
func marked(size int) []uint32 {
	l := make([]uint32, max(size, 0))
	for c := range l {
		l[c] = 0xabc000 + uint32(c)
	}
	return l
}

// size is how many cells a lock for n tasks has; of a number that no lock has some that are there all the same.
func size(n int) int {
	if n < 1 || n > api.MaxTasks {
		return 300
	}
	return 8 + 4*n
}

// P12.1, P12.2: each line, and those beside the first and the last one, from all sorts of words in the tail, the task's next and blocked, and in A, in the two modes and others; no other cell is touched.
func TestTwin(t *testing.T) {
	for n := -1; n <= 5; n++ {
		for _, mode := range append(spins(), api.Parked) {
			for _, tail := range words() {
				for _, own := range words() {
					for _, a := range words() {
						x := twin{words: marked(20), n: 3, mode: mode, task: 1}
						x.words[2], x.words[9], x.words[12] = tail, own, own
						x.frame = api.Frame{Op: 3, A: a, B: 4, Ret: 0}
						x.all(t, n, 2, 6)
					}
				}
			}
		}
	}
}

// P12.1, P12.2: all tasks, also those that aren't there, of all numbers of tasks, also those that no lock has, with an A that names tasks that are there, and that aren't.
func TestTwinOfTasks(t *testing.T) {
	for _, n := range append(counts(), noCounts()...) {
		for _, task := range append(noTasks(n), 0, n/2, n-1) {
			for _, a := range []uint32{0, 1, uint32(n), uint32(n) + 1, uint32(task) + 1, 65, half, top} {
				for _, tail := range []uint32{0, uint32(task) + 1, 1, 64} {
					for _, mode := range []int{api.Spin, 0, api.Parked} {
						for k := range 5 {
							x := twin{words: marked(size(n)), n: n, mode: mode, task: task, frame: api.Frame{A: a}}
							x.words[1] = tail
							x.all(t, k, 1, 0)
						}
					}
				}
			}
		}
	}
}

// P12.1: the lines that wait, from each stage, with a permit and without one, in all modes.
func TestTwinOfStages(t *testing.T) {
	for _, mode := range append(spins(), api.Parked) {
		for _, stage := range stages() {
			for _, permit := range words() {
				for _, own := range words() {
					for _, n := range []int{2, 4} {
						x := twin{words: marked(16), n: 2, mode: mode, task: 1}
						x.words[9], x.words[11], x.words[15] = own, own, permit
						x.frame = api.Frame{A: 99, B: 98, Wait: api.Wait{Stage: stage}}
						x.all(t, n, 0, 3)
					}
				}
			}
		}
	}
}

// P12.1, P12.2: a frame with a result, a wake-up, a stage, and words of all kinds, and a run with an access and notes: what the line doesn't name stays as it is.
func TestTwinOfFrames(t *testing.T) {
	for n := range 5 {
		for _, ret := range []int{0, 1, 2, 3, -1, 99} {
			for _, w := range []api.Wake{{}, {On: true, Cell: 1}, {On: true, Cell: 3, I: 1, Hit: true}, {On: true, I: 7}, {Cell: 4, I: 1}} {
				for _, mode := range []int{api.Spin, api.Parked, 0} {
					for _, op := range []int{0, 3, -1, math.MaxInt} {
						for _, b := range words() {
							for _, tail := range []uint32{0, 1, 2} {
								x := twin{words: marked(16), n: 2, mode: mode, access: api.Access{Kind: 4, Cell: 9, Old: 3}}
								x.words[3], x.words[8], x.words[10] = tail, tail, tail
								x.notes = []api.Note{{Task: 5, What: 6, Op: 7, Arg: 8}, {What: 99}}
								x.frame = api.Frame{Op: op, A: b, B: b ^ 1, Wait: api.Wait{Stage: n}, Wake: w, Ret: ret}
								x.all(t, n, 3, 7)
							}
						}
					}
				}
			}
		}
	}
}

// P12.1, P12.2: a nil memory, and one of fewer cells than the tasks have: those that it has are touched alone, and what isn't there is 0; and a tail that isn't there.
func TestTwinOfFewerCells(t *testing.T) {
	for size := -1; size <= 16; size++ {
		for _, tail := range append(tails(), 15, 16) {
			for _, mode := range modes() {
				for _, stage := range stages() {
					for _, a := range []uint32{0, 1, 2, 3, top} {
						for n := range 5 {
							x := twin{n: 2, mode: mode, task: 1, frame: api.Frame{A: a, Wait: api.Wait{Stage: stage}}}
							if size >= 0 {
								x.words = marked(size)
							}
							x.all(t, n, tail, 5)
						}
					}
				}
			}
		}
	}
}

// P12.1, P12.2: lines counted from any one on, also such that numbers go round behind it, and all lines that aren't there.
func TestTwinOfLines(t *testing.T) {
	for _, a := range append(firsts(), lines()...) {
		for _, n := range append(lines(), -1-a, -a, 5-a) {
			for _, mode := range modes() {
				for _, tail := range []uint32{0, 1, 2} {
					x := twin{words: marked(16), n: 2, mode: mode, task: 1, frame: api.Frame{A: 1}}
					x.words[0], x.words[9], x.words[11] = tail, tail, tail
					x.all(t, n, 0, a)
				}
			}
		}
	}
}
