package line_test

import (
	"math"
	"slices"
	"testing"

	"stileman/api"
	"stileman/cells"
	"stileman/line"
	"stileman/place"
)

const (
	top  = math.MaxUint32
	half = 1 << 31
)

// counts are numbers of tasks, with the edges.
func counts() []int {
	return []int{1, 2, 3, 63, 64}
}

// noCounts are numbers of tasks that no lock has; twice some of them, round the int, and some more, is a cell that is there.
func noCounts() []int {
	return []int{0, -1, -2, -64, 65, 66, 128, 300, 1 << 32, 1<<32 + 2, 1 << 61, 1 << 62, -1 << 62, math.MaxInt / 3, math.MinInt, math.MaxInt - 1, math.MaxInt}
}

// noTasks are numbers of tasks that a lock for n tasks hasn't; some of those below 0 would meet cells that are there, were they counted on.
func noTasks(n int) []int {
	return []int{-1, -2, -n, -n - 1, -2*n - 8, -3*n - 8, n, n + 1, 2 * n, 64 + n, 256, 1 << 32, math.MinInt, math.MinInt + 1, math.MaxInt - 1, math.MaxInt}
}

// noCells are numbers of cells that a memory of so many cells hasn't.
func noCells(size int) []int {
	return []int{-1, -2, -size - 1, size, size + 1, api.MaxCells, api.MaxCells + 1, 1 << 32, 1<<32 + 4, math.MinInt, math.MaxInt - 1, math.MaxInt}
}

// spins are modes that count as Spin.
func spins() []int {
	return []int{api.Spin, 0, -1, -2, 3, 4, 1 << 32, 1<<32 + api.Parked, math.MinInt, math.MaxInt}
}

// stages are all stages, and some that are none.
func stages() []int {
	return []int{0, 1, 2, 3, 4, -1, -3, 5, 6, 1 << 32, 1<<32 + 3, math.MinInt, math.MaxInt}
}

// numbers are ints of all sizes.
func numbers() []int {
	return []int{0, 1, 2, 3, 11, 64, -1, -2, 1 << 32, 1<<32 + 1, math.MinInt, math.MaxInt}
}

// words are words that a cell may hold.
func words() []uint32 {
	return []uint32{0, 1, 2, 9, half - 1, half, top - 1, top}
}

// asks are functions that one may wait for, with one that isn't there, and one that panics.
func asks() []func(v uint32) bool {
	return []func(v uint32) bool{never, always, zero, nil, broken}
}

func never(uint32) bool { return false }

func always(uint32) bool { return true }

func zero(v uint32) bool { return v == 0 }

func broken(uint32) bool { panic("broken") }

// holds tells whether is holds of v, as the chapter tells: neither one that isn't there does, nor one that panics.
func holds(is func(v uint32) bool, v uint32) (yes bool) {
	defer func() { recover() }()
	return is != nil && is(v)
}

// cell is the cell of the task in the row (2: its watch, 3: its permit) in a lock for n tasks, as chapter 3 counts it; -1: there is none.
func cell(row, n, task int) int {
	if n < 1 || n > 64 || task < 0 || task >= n {
		return -1
	}
	return 8 + row*n + task
}

func watch(n, task int) int { return cell(2, n, task) }

func permit(n, task int) int { return cell(3, n, task) }

// twin is a run, and what the chapters tell of it: r is done by the package, want and words by these tests.
type twin struct {
	r     *line.Run
	want  line.Run
	words []uint32
}

// marked makes a run of the task 0 in the mode Parked, of a lock for n tasks with a memory of so many cells; each cell has a word of its own, and so has each part of its frame.
func marked(t *testing.T, n, size int) *twin {
	t.Helper()
	w := &twin{words: make([]uint32, size)}
	for c := range w.words {
		w.words[c] = 0xabc000 + uint32(c)
	}
	m, e := cells.From(w.words...)
	if e != api.OK {
		t.Fatalf("a memory of %d cells: %v", size, e)
	}
	w.r = &line.Run{Mem: m, Map: place.Map{N: n}, Mode: api.Parked, Frame: api.Frame{Op: 91, Line: 92, A: 93, B: 94}}
	w.tells()
	return w
}

// whole makes one with just as many cells as the lock needs.
func whole(t *testing.T, n int) *twin {
	t.Helper()
	return marked(t, n, 8+4*n)
}

// bare makes one of a nil memory.
func bare(n int) *twin {
	w := &twin{r: &line.Run{Map: place.Map{N: n}, Mode: api.Parked}}
	w.tells()
	return w
}

// tells takes what was set in the run over into what is wanted of it.
func (w *twin) tells() {
	w.want = *w.r
	w.want.Notes = slices.Clone(w.r.Notes)
}

// has tells whether the cell is there.
func (w *twin) has(c int) bool {
	return c >= 0 && c < len(w.words)
}

// set puts the word into the cell, if it is there.
func (w *twin) set(c int, x uint32) {
	if w.has(c) {
		w.r.Mem.Store(c, x)
		w.words[c] = x
	}
}

// at lets the run be of that task, in that mode.
func (w *twin) at(mode, task int) {
	w.r.Mode, w.r.Task = mode, task
	w.tells()
}

// same fails the test, if a part of the run, or a cell's word, is another one than it is to be.
func (w *twin) same(t *testing.T, of any) {
	t.Helper()
	got, want := *w.r, w.want
	if !slices.Equal(got.Notes, want.Notes) {
		t.Fatalf("%+v: the notes are %+v, want %+v", of, got.Notes, want.Notes)
	}
	if got.Frame != want.Frame || got.Access != want.Access {
		t.Fatalf("%+v: %+v, %+v, want %+v, %+v", of, got.Frame, got.Access, want.Frame, want.Access)
	}
	if got.Mem != want.Mem || got.Map != want.Map || got.Mode != want.Mode || got.Task != want.Task {
		t.Fatalf("%+v: %+v, want %+v", of, got, want)
	}
	if all := w.r.Mem.All(); !slices.Equal(all, w.words) {
		t.Fatalf("%+v: the cells are %x, want %x", of, all, w.words)
	}
}

// act is a call of a run: of a cell or another number n, with the words x and y, a number m, and a function.
type act struct {
	call string
	n, m int
	x, y uint32
	ok   bool
	is   func(v uint32) bool
}

// answer is what a call answers: a word, or one or two bools.
type answer struct {
	word      uint32
	yes, done bool
}

// on does the call of the run.
func (a act) on(r *line.Run) (b answer) {
	switch a.call {
	case "load":
		b.word = r.Load(a.n)
	case "store":
		r.Store(a.n, a.x)
	case "add":
		b.word = r.Add(a.n, a.x)
	case "swap":
		b.word = r.Swap(a.n, a.x)
	case "cas":
		b.yes = r.Cas(a.n, a.x, a.y)
	case "wait":
		b.yes, b.done = r.Wait(a.n, a.is)
	case "note":
		r.Note(a.n, a.m)
	case "go":
		r.Go(a.n)
	case "end":
		r.End(a.ok)
	case "wake":
		r.Wake(a.n)
	}
	return b
}

// told is what the chapters tell of the call, and the run, and the words behind it are those that are wanted from then on.
func (w *twin) told(a act) (b answer) {
	r := &w.want
	switch a.call {
	case "load":
		r.Access = w.access(api.ALoad, a.n, 0, 0)
		b.word = r.Access.Old
	case "store":
		r.Access = w.access(api.AStore, a.n, a.x, 0)
	case "add":
		r.Access = w.access(api.AAdd, a.n, a.x, 0)
		b.word = r.Access.Old
	case "swap":
		r.Access = w.access(api.ASwap, a.n, a.x, 0)
		b.word = r.Access.Old
	case "cas":
		r.Access = w.access(api.ACas, a.n, a.x, a.y)
		b.yes = w.has(a.n) && r.Access.Old == a.x
	case "wait":
		b.yes, b.done = w.waits(a.n, a.is)
	case "note":
		r.Notes = append(r.Notes, api.Note{Task: r.Task, What: a.n, Arg: a.m})
	case "go":
		r.Frame.Line = a.n
	case "end":
		r.Frame.Ret = 1
		if a.ok {
			r.Frame.Ret = 2
		}
	case "wake":
		r.Frame.Wake = api.Wake{}
		if r.Mode == 2 {
			r.Frame.Wake = api.Wake{On: true, Cell: a.n}
		}
	}
	return b
}

// access is what chapter 1 tells of an access of that kind, on words that are wanted.
func (w *twin) access(kind, c int, x, y uint32) api.Access {
	if !w.has(c) {
		return api.Access{}
	}
	old := w.words[c]
	switch kind {
	case api.AStore, api.ASwap:
		w.words[c] = x
	case api.AAdd:
		w.words[c] = old + x
	case api.ACas:
		if old == x {
			w.words[c] = y
		}
	}
	return api.Access{Kind: kind, Cell: c, X: x, Y: y, Old: old}
}

// waits is what chapter 7's table tells of a step of waiting.
func (w *twin) waits(c int, is func(v uint32) bool) (seen, done bool) {
	r := &w.want
	stage := r.Frame.Wait.Stage
	if r.Mode != 2 || stage < 1 || stage > 4 {
		stage = 0
	}
	next := 0
	switch stage {
	case 0, 2:
		r.Access = w.access(api.ALoad, c, 0, 0)
		seen = holds(is, r.Access.Old)
		if r.Mode == 2 && !seen {
			next = stage + 1
		} else if stage == 2 {
			next = 4
		}
		done = seen && stage == 0
	case 1:
		r.Access = w.access(api.AStore, watch(r.Map.N, r.Task), uint32(c)+1, 0)
		next = 2
	case 3:
		r.Access, next = api.Access{}, 3
		if p := permit(r.Map.N, r.Task); w.has(p) && w.words[p] != 0 {
			r.Access, next = w.access(api.ASwap, p, 0, 0), 2
		}
	case 4:
		r.Access = w.access(api.AStore, watch(r.Map.N, r.Task), 0, 0)
		done = true
	}
	r.Frame.Wait = api.Wait{Stage: next}
	return seen, done
}

// wakes is what chapter 8 tells of a step of the wake-up that is on.
func (w *twin) wakes() {
	r := &w.want
	u := r.Frame.Wake
	c := watch(r.Map.N, u.I)
	if u.Hit {
		c = permit(r.Map.N, u.I)
	}
	if !w.has(c) {
		r.Frame.Wake, r.Access = api.Wake{}, api.Access{}
		return
	}
	if u.Hit {
		r.Access = w.access(api.AStore, c, 1, 0)
		u.Hit, u.I = false, u.I+1
	} else {
		r.Access = w.access(api.ALoad, c, 0, 0)
		if w.words[c] == uint32(u.Cell)+1 {
			u.Hit = true
		} else {
			u.I++
		}
	}
	if u.I == r.Map.N {
		u = api.Wake{}
	}
	r.Frame.Wake = u
}

// does does the calls one by one, and fails the test, unless each answers what is told of it, and leaves the run and all words as told.
func (w *twin) does(t *testing.T, l ...act) {
	t.Helper()
	for _, a := range l {
		want := w.told(a)
		if got := a.on(w.r); got != want {
			t.Fatalf("%+v: %+v, want %+v", a, got, want)
		}
		w.same(t, a)
	}
}

// steps does a step whose lines do the calls, and fails the test, unless all is as told; it answers whether the operation is over.
func (w *twin) steps(t *testing.T, l ...act) bool {
	t.Helper()
	on, calls := w.r.Frame.Wake.On, 0
	w.want.Access, w.want.Notes = api.Access{}, nil
	got := w.r.Step(func(r *line.Run) {
		calls++
		if r != w.r {
			t.Errorf("the lines are called with another run")
		}
		w.same(t, "at the step's begin")
		w.does(t, l...)
	})
	if on {
		w.wakes()
	}
	if called := calls == 1; called == on || calls > 1 {
		t.Fatalf("of a wake-up that is on, %v: the lines were called %d times", on, calls)
	}
	w.same(t, "behind the step")
	if want := w.want.Frame.Ret != 0 && !w.want.Frame.Wake.On; got != want {
		t.Fatalf("over: %v, want %v, of %+v", got, want, w.r.Frame)
	}
	return got
}
