package wait_test

import (
	"math"
	"slices"
	"testing"

	"stileman/api"
	"stileman/cells"
	"stileman/park"
	"stileman/place"
	"stileman/wait"
)

const (
	top  = math.MaxUint32
	half = 1 << 31
)

// counts are numbers of tasks, with the edges.
func counts() []int {
	return []int{1, 2, 3, 63, 64}
}

// noCounts are numbers of tasks that no lock has.
func noCounts() []int {
	return []int{0, -1, -2, -64, 65, 66, 128, 300, 1 << 32, 1<<32 + 2, 1 << 61, 1 << 62, -1 << 62, math.MaxInt / 3, math.MinInt, math.MaxInt - 1, math.MaxInt}
}

// noTasks are numbers of tasks that a lock for n tasks hasn't; those far below 0 would meet cells that are there, were they counted on.
func noTasks(n int) []int {
	return []int{-1, -2, -n, -n - 1, -2*n - 8, -3*n - 8, n, n + 1, 2 * n, 64 + n, 256, 1 << 32, math.MinInt, math.MinInt + 1, math.MaxInt - 1, math.MaxInt}
}

// noCells are numbers of cells that a memory of so many cells hasn't.
func noCells(size int) []int {
	return []int{-1, -2, -size, size, size + 1, api.MaxCells, api.MaxCells + 1, 1 << 32, 1<<32 + 4, math.MinInt, math.MaxInt - 1, math.MaxInt}
}

// spins are modes that count as Spin.
func spins() []int {
	return []int{api.Spin, 0, -1, -2, 3, 4, 1 << 32, 1<<32 + api.Parked, math.MinInt, math.MaxInt}
}

// noStages are stages that count as 0.
func noStages() []int {
	return []int{-1, -2, -3, -4, 5, 6, 7, 1 << 32, 1<<32 + 3, math.MinInt, math.MaxInt}
}

// stages are all stages, and some that are none.
func stages() []int {
	return append([]int{0, 1, 2, 3, 4}, noStages()...)
}

// watch is the cell of the task's watch in a lock for n tasks, as chapter 3 counts it; -1: there is none.
func watch(n, task int) int {
	if n < 1 || n > 64 || task < 0 || task >= n {
		return -1
	}
	return 8 + 2*n + task
}

// permit is the cell of the task's permit, likewise.
func permit(n, task int) int {
	if watch(n, task) < 0 {
		return -1
	}
	return 8 + 3*n + task
}

// lock is a memory with its map, and the words that its cells are to have.
type lock struct {
	p    place.Map
	m    *cells.Memory
	want []uint32
}

// marked makes a lock for n tasks, with a memory of so many cells; each cell has a word of its own.
func marked(t *testing.T, n, size int) *lock {
	t.Helper()
	l := &lock{p: place.Map{N: n}, want: make([]uint32, size)}
	for c := range l.want {
		l.want[c] = 0xabc000 + uint32(c)
	}
	m, e := cells.From(l.want...)
	if e != api.OK {
		t.Fatalf("a memory of %d cells: %v", size, e)
	}
	l.m = m
	return l
}

// whole makes a lock for n tasks with just as many cells as it needs.
func whole(t *testing.T, n int) *lock {
	t.Helper()
	return marked(t, n, 8+4*n)
}

// set puts the word into the cell, if it is there.
func (l *lock) set(c int, x uint32) {
	if l.has(c) {
		l.m.Store(c, x)
		l.want[c] = x
	}
}

// has tells whether the cell is there.
func (l *lock) has(c int) bool {
	return c >= 0 && c < len(l.want)
}

// stays fails the test, if a cell's word is another one than it is to be.
func (l *lock) stays(t *testing.T) {
	t.Helper()
	if got := l.m.All(); !slices.Equal(got, l.want) {
		t.Fatalf("of %d tasks, the cells are %x, want %x", l.p.N, got, l.want)
	}
}

// answer is what a step tells.
type answer struct {
	stage      int
	a          api.Access
	seen, done bool
}

// access is what the chapter tells of an access of that kind with the word x: it is done, or there is no such cell.
func (l *lock) access(kind, c int, x uint32) api.Access {
	if !l.has(c) {
		return api.Access{}
	}
	a := api.Access{Kind: kind, Cell: c, X: x, Old: l.want[c]}
	if kind != api.ALoad {
		l.want[c] = x
	}
	return a
}

// told is what the chapter's table tells of a step, and the words behind it are those that are wanted from then on; asked is the word that the function is asked of.
func (l *lock) told(mode, task, stage, c int, is func(v uint32) bool) (w answer, asked []uint32) {
	parked := mode == 2
	load := func(yes, no answer) (answer, []uint32) {
		a, w := l.access(api.ALoad, c, 0), no
		if is(a.Old) {
			w = yes
			w.seen = true
		}
		w.a = a
		return w, []uint32{a.Old}
	}
	switch {
	case parked && stage == 1:
		return answer{stage: 2, a: l.access(api.AStore, watch(l.p.N, task), uint32(c)+1)}, nil
	case parked && stage == 2:
		return load(answer{stage: 4}, answer{stage: 3})
	case parked && stage == 3:
		cell := permit(l.p.N, task)
		if l.has(cell) && l.want[cell] != 0 {
			return answer{stage: 2, a: l.access(api.ASwap, cell, 0)}, nil
		}
		return answer{stage: 3}, nil
	case parked && stage == 4:
		return answer{a: l.access(api.AStore, watch(l.p.N, task), 0), done: true}, nil
	case parked:
		return load(answer{done: true}, answer{stage: 1})
	}
	return load(answer{done: true}, answer{})
}

// steps does a step, and fails the test, unless it is as the table tells, and no other cell is touched.
func (l *lock) steps(t *testing.T, mode, task, stage, c int, is func(v uint32) bool) answer {
	t.Helper()
	want, words := l.told(mode, task, stage, c, is)
	var asked []uint32
	next, a, seen, done := wait.Step(l.m, l.p, mode, task, api.Wait{Stage: stage}, c, func(v uint32) bool {
		asked = append(asked, v)
		return is(v)
	})
	got := answer{next.Stage, a, seen, done}
	if got != want {
		t.Fatalf("Step of %d of %d tasks, in the mode %d, at the stage %d, for the cell %d: %+v, want %+v", task, l.p.N, mode, stage, c, got, want)
	}
	if !slices.Equal(asked, words) {
		t.Fatalf("Step in the mode %d, at the stage %d, asked of the words %x, want %x", mode, stage, asked, words)
	}
	l.stays(t)
	return got
}

// stuck fails the test, unless Stuck tells what the chapter does, and touches nothing.
func (l *lock) stuck(t *testing.T, mode, task, stage int) {
	t.Helper()
	c := permit(l.p.N, task)
	want := mode == 2 && stage == 3 && !(l.has(c) && l.want[c] != 0)
	if got := wait.Stuck(l.m, l.p, mode, task, api.Wait{Stage: stage}); got != want {
		t.Fatalf("Stuck of %d of %d tasks, in the mode %d, at the stage %d: %v, want %v", task, l.p.N, mode, stage, got, want)
	}
	l.stays(t)
}

// all does a step of each stage in both modes, whether the function holds or not, and asks each time whether it is stuck.
func (l *lock) all(t *testing.T, task, c int) {
	t.Helper()
	for _, mode := range []int{api.Spin, api.Parked} {
		for stage := range 5 {
			for _, is := range []func(v uint32) bool{never, always, zero} {
				l.stuck(t, mode, task, stage)
				l.steps(t, mode, task, stage, c, is)
			}
		}
	}
}

func never(uint32) bool { return false }

func always(uint32) bool { return true }

func zero(v uint32) bool { return v == 0 }

func seven(v uint32) bool { return v == 7 }

// The chapter's example: Spin: a load that doesn't see it: stage 0, not done.
func TestExample(t *testing.T) {
	m, _ := cells.New(16)
	next, a, seen, done := wait.Step(m, place.Map{N: 2}, api.Spin, 1, api.Wait{}, 5, seven)
	if next != (api.Wait{}) || a != (api.Access{Kind: api.ALoad, Cell: 5}) || seen || done {
		t.Errorf("%+v, %+v, %v, %v", next, a, seen, done)
	}
}

// P7.1: the rows of the table, of the second one of two tasks (its watch is the cell 13, its permit the cell 15), which waits until the cell 3 is 7.
func TestRows(t *testing.T) {
	load := func(old uint32) api.Access { return api.Access{Kind: api.ALoad, Cell: 3, Old: old} }
	for _, x := range []struct {
		mode, stage         int
		cell, watch, permit uint32
		want                answer
		watchThen           uint32
		permitThen          uint32
	}{
		{api.Spin, 0, 7, 0, 0, answer{0, load(7), true, true}, 0, 0},
		{api.Spin, 0, 6, 0, 0, answer{0, load(6), false, false}, 0, 0},
		{api.Spin, 0, 0, 9, 1, answer{0, load(0), false, false}, 9, 1},
		{api.Spin, 1, 7, 9, 1, answer{0, load(7), true, true}, 9, 1},
		{api.Spin, 2, 6, 9, 1, answer{0, load(6), false, false}, 9, 1},
		{api.Spin, 3, 7, 9, 1, answer{0, load(7), true, true}, 9, 1},
		{api.Spin, 4, top, 9, 1, answer{0, load(top), false, false}, 9, 1},
		{api.Parked, 0, 7, 9, 1, answer{0, load(7), true, true}, 9, 1},
		{api.Parked, 0, 6, 9, 1, answer{1, load(6), false, false}, 9, 1},
		{api.Parked, 1, 7, 0, 1, answer{2, api.Access{Kind: api.AStore, Cell: 13, X: 4}, false, false}, 4, 1},
		{api.Parked, 1, 6, 9, 0, answer{2, api.Access{Kind: api.AStore, Cell: 13, X: 4, Old: 9}, false, false}, 4, 0},
		{api.Parked, 2, 7, 4, 1, answer{4, load(7), true, false}, 4, 1},
		{api.Parked, 2, 6, 4, 1, answer{3, load(6), false, false}, 4, 1},
		{api.Parked, 3, 7, 4, 1, answer{2, api.Access{Kind: api.ASwap, Cell: 15, Old: 1}, false, false}, 4, 0},
		{api.Parked, 3, 6, 4, 9, answer{2, api.Access{Kind: api.ASwap, Cell: 15, Old: 9}, false, false}, 4, 0},
		{api.Parked, 3, 7, 4, 0, answer{3, api.Access{}, false, false}, 4, 0},
		{api.Parked, 4, 7, 4, 1, answer{0, api.Access{Kind: api.AStore, Cell: 13, Old: 4}, false, true}, 0, 1},
		{api.Parked, 4, 6, 0, 0, answer{0, api.Access{Kind: api.AStore, Cell: 13}, false, true}, 0, 0},
		{api.Parked, -1, 7, 9, 1, answer{0, load(7), true, true}, 9, 1},
		{api.Parked, 5, 6, 9, 1, answer{1, load(6), false, false}, 9, 1},
	} {
		m, _ := cells.New(16)
		m.Store(3, x.cell)
		m.Store(13, x.watch)
		m.Store(15, x.permit)
		next, a, seen, done := wait.Step(m, place.Map{N: 2}, x.mode, 1, api.Wait{Stage: x.stage}, 3, seven)
		if got := (answer{next.Stage, a, seen, done}); got != x.want {
			t.Errorf("%+v: got %+v", x, got)
		}
		then := make([]uint32, 16)
		then[3], then[13], then[15] = x.cell, x.watchThen, x.permitThen
		if got := m.All(); !slices.Equal(got, then) {
			t.Errorf("%+v: the cells are %v, want %v", x, got, then)
		}
	}
}

// P7.1: a whole wait in the mode Spin: a load a step, until it is seen; nothing is stored.
func TestWholeSpin(t *testing.T) {
	for _, mode := range spins() {
		l := whole(t, 3)
		w := answer{}
		for v := range uint32(8) {
			l.set(2, v)
			w = l.steps(t, mode, 1, w.stage, 2, seven)
			if w.done != (v == 7) {
				t.Fatalf("in the mode %d, of the word %d: %+v", mode, v, w)
			}
		}
	}
}

// P7.1: a whole wait in the mode Parked, which is woken twice, the first time for nothing.
func TestWholeParked(t *testing.T) {
	l := whole(t, 2)
	l.set(14, 0)
	l.set(0, 6)
	w := answer{}
	var path []int
	for i := range 20 {
		if i == 6 || i == 11 {
			l.set(14, 1)
		}
		if i == 10 {
			l.set(0, 7)
		}
		w = l.steps(t, api.Parked, 0, w.stage, 0, seven)
		path = append(path, w.stage)
		if w.done {
			break
		}
	}
	if want := []int{1, 2, 3, 3, 3, 3, 2, 3, 3, 3, 3, 2, 4, 0}; !slices.Equal(path, want) {
		t.Errorf("the stages are %v, want %v", path, want)
	}
	if l.m.Load(12) != 0 || l.m.Load(14) != 0 {
		t.Errorf("the watch is %#x, the permit %#x", l.m.Load(12), l.m.Load(14))
	}
}

// P7.1: a whole wait in the mode Parked without a wake-up: what is waited for comes between the two looks.
func TestBetweenTheLooks(t *testing.T) {
	for _, at := range []int{0, 1, 2} {
		l := whole(t, 2)
		w := answer{}
		var path []int
		for i := 0; !w.done && i < 9; i++ {
			if i == at {
				l.set(0, 7)
			}
			w = l.steps(t, api.Parked, 1, w.stage, 0, seven)
			path = append(path, w.stage)
		}
		want := []int{1, 2, 4, 0}
		if at == 0 {
			want = []int{0}
		}
		if !slices.Equal(path, want) {
			t.Errorf("stored ahead of the step %d: the stages are %v, want %v", at, path, want)
		}
	}
}

// P7.1: once it was seen at the stage 2, it plays no part any more, whether it holds still.
func TestSeenOnce(t *testing.T) {
	l := whole(t, 2)
	l.set(0, 7)
	w := l.steps(t, api.Parked, 1, 2, 0, seven)
	l.set(0, 6)
	if w = l.steps(t, api.Parked, 1, w.stage, 0, seven); !w.done {
		t.Errorf("%+v", w)
	}
}

// P7.1: each mode but Parked counts as Spin, whatever the stage is; in Parked each stage but 1 to 4 counts as 0.
func TestModesAndStages(t *testing.T) {
	for _, mode := range append(spins(), api.Parked) {
		for _, stage := range stages() {
			for _, v := range []uint32{0, 6, 7, top} {
				for _, x := range []uint32{0, 1, 2, top} {
					l := whole(t, 2)
					l.set(1, v)
					l.set(permit(2, 1), x)
					l.stuck(t, mode, 1, stage)
					l.steps(t, mode, 1, stage, 1, seven)
				}
			}
		}
	}
}

// P7.1: each task of each number of tasks has a watch and a permit of its own.
func TestAllTasks(t *testing.T) {
	for n := 1; n <= api.MaxTasks; n++ {
		l := whole(t, n)
		for task := range n {
			l.all(t, task, 0)
			l.set(permit(n, task), 1)
			l.all(t, task, 7)
			l.all(t, task, 8+4*n-1)
		}
	}
}

// P7.1: each cell may be waited for, also those of the tasks, and the one that the step stores in.
func TestAllCells(t *testing.T) {
	for _, n := range counts() {
		for _, task := range []int{0, n / 2, n - 1} {
			l := whole(t, n)
			for c := range l.want {
				l.all(t, task, c)
				l.set(permit(n, task), 3)
			}
		}
	}
}

// P7.1: whatever words the cell, the watch and the permit hold.
func TestAnyWord(t *testing.T) {
	words := []uint32{0, 1, 2, 7, 255, 1 << 16, half - 1, half, top - 1, top}
	for _, n := range []int{1, 64} {
		for _, task := range []int{0, n - 1} {
			for _, x := range words {
				for _, y := range words {
					l := whole(t, n)
					l.set(0, x)
					l.set(watch(n, task), y)
					l.set(permit(n, task), y)
					l.all(t, task, 0)
				}
			}
		}
	}
}

// P7.1: the function is asked of the whole word.
func TestWholeWord(t *testing.T) {
	words := []uint32{0, 1, 1 << 8, 1 << 16, half, half + 1, top - 1, top}
	for _, x := range words {
		for _, y := range words {
			l := whole(t, 2)
			l.set(4, x)
			for _, w := range []struct{ mode, stage int }{{api.Spin, 0}, {api.Parked, 0}, {api.Parked, 2}} {
				if got := l.steps(t, w.mode, 0, w.stage, 4, func(v uint32) bool { return v == y }); got.seen != (x == y) {
					t.Errorf("in the mode %d, at the stage %d: %#x for %#x: %v", w.mode, w.stage, x, y, got.seen)
				}
			}
		}
	}
}

// P7.1: what is seen may be kept by the function, which is asked once in a step that loads, and in no other one.
func TestAskedOnce(t *testing.T) {
	for _, w := range []struct{ mode, stage, want int }{
		{api.Spin, 0, 1}, {api.Spin, 1, 1}, {api.Spin, 3, 1}, {api.Spin, 4, 1},
		{api.Parked, 0, 1}, {api.Parked, 1, 0}, {api.Parked, 2, 1}, {api.Parked, 3, 0}, {api.Parked, 4, 0},
	} {
		for _, yes := range []bool{false, true} {
			m, _ := cells.New(16)
			times := 0
			wait.Step(m, place.Map{N: 2}, w.mode, 0, api.Wait{Stage: w.stage}, 0, func(uint32) bool {
				times++
				return yes
			})
			if times != w.want {
				t.Errorf("in the mode %d, at the stage %d: it is asked %d times, want %d", w.mode, w.stage, times, w.want)
			}
		}
	}
}

// P7.1: a nil is never holds.
func TestNilIs(t *testing.T) {
	for _, mode := range []int{api.Spin, api.Parked} {
		for _, stage := range stages() {
			for _, v := range []uint32{0, 1, top} {
				l := whole(t, 2)
				l.set(0, v)
				want, _ := l.told(mode, 1, stage, 0, never)
				next, a, seen, done := wait.Step(l.m, l.p, mode, 1, api.Wait{Stage: stage}, 0, nil)
				if got := (answer{next.Stage, a, seen, done}); got != want {
					t.Errorf("in the mode %d, at the stage %d: %+v, want %+v", mode, stage, got, want)
				}
				l.stays(t)
			}
		}
	}
}

// P1: no call panics, at all arguments: a function that panics doesn't hold.
func TestIsThatPanics(t *testing.T) {
	var none map[int]int
	for _, is := range []func(v uint32) bool{
		func(uint32) bool { panic("is") },
		func(uint32) bool { panic(nil) },
		func(v uint32) bool { return []bool{}[v] },
		func(v uint32) bool { none[int(v)] = 1; return true },
	} {
		for _, mode := range []int{api.Spin, api.Parked} {
			for stage := range 5 {
				l := whole(t, 2)
				want, _ := l.told(mode, 1, stage, 0, never)
				next, a, seen, done := wait.Step(l.m, l.p, mode, 1, api.Wait{Stage: stage}, 0, is)
				if got := (answer{next.Stage, a, seen, done}); got != want {
					t.Errorf("in the mode %d, at the stage %d: %+v, want %+v", mode, stage, got, want)
				}
				l.stays(t)
			}
		}
	}
}

// P7.1: a cell that isn't there is loaded as 0, and the access is a zero one; the watch names it all the same.
func TestNoCell(t *testing.T) {
	for _, n := range counts() {
		for _, c := range noCells(8 + 4*n) {
			for _, task := range []int{0, n - 1} {
				l := whole(t, n)
				l.all(t, task, c)
			}
		}
	}
	m, _ := cells.New(16)
	for _, c := range noCells(16) {
		next, a, seen, done := wait.Step(m, place.Map{N: 2}, api.Spin, 0, api.Wait{}, c, zero)
		if next != (api.Wait{}) || a != (api.Access{}) || !seen || !done {
			t.Errorf("the cell %d: %+v, %+v, %v, %v", c, next, a, seen, done)
		}
	}
}

// P7.1: the cell's number, and 1 more, is a word, round which it goes.
func TestWatchGoesRound(t *testing.T) {
	for _, x := range []struct {
		c    int
		want uint32
	}{
		{0, 1}, {15, 16}, {1023, 1024}, {-1, 0}, {-2, top}, {top - 1, top}, {top, 0}, {1 << 32, 1}, {1<<32 + 4, 5}, {math.MaxInt, 0}, {math.MinInt, 1},
	} {
		m, _ := cells.New(16)
		_, a, _, _ := wait.Step(m, place.Map{N: 2}, api.Parked, 1, api.Wait{Stage: 1}, x.c, never)
		if want := (api.Access{Kind: api.AStore, Cell: 13, X: x.want}); a != want || m.Load(13) != x.want {
			t.Errorf("the cell %d: %+v, want %+v", x.c, a, want)
		}
	}
}

// P7.1, P7.2: a task that isn't there has no watch and no permit, even if all cells are there.
func TestNoTask(t *testing.T) {
	for _, n := range counts() {
		l := marked(t, n, api.MaxCells)
		for _, task := range noTasks(n) {
			if task < 0 || task >= n {
				l.all(t, task, 0)
				l.all(t, task, -1)
			}
		}
	}
}

// P7.1, P7.2: of a map for a number of tasks that no lock has, no task has a watch or a permit.
func TestNoMap(t *testing.T) {
	l := marked(t, 1, api.MaxCells)
	for _, n := range noCounts() {
		l.p = place.Map{N: n}
		for _, task := range append(noTasks(n), 0, 1, 2, 63, 64) {
			l.all(t, task, 1)
		}
	}
}

// P7.1, P7.2: a memory of fewer cells hasn't some watches, or permits, or the cell.
func TestFewerCells(t *testing.T) {
	for _, n := range []int{1, 2, 5, 64} {
		for size := range 8 + 4*n + 2 {
			for _, task := range []int{0, n - 1} {
				l := marked(t, n, size)
				l.all(t, task, 0)
				l.all(t, task, size-1)
				l.all(t, task, size)
			}
		}
	}
}

// P7.1: of a memory of more cells, those behind are touched by nothing, but may be waited for.
func TestMoreCells(t *testing.T) {
	for _, n := range counts() {
		l := marked(t, n, api.MaxCells)
		for _, task := range []int{0, n - 1} {
			for _, c := range []int{0, 8 + 4*n, api.MaxCells - 1} {
				l.all(t, task, c)
				l.set(permit(n, task), 1)
			}
		}
	}
}

// P7.1, P7.2: a nil memory has no cells, and who takes a permit is stuck.
func TestNilMemory(t *testing.T) {
	for _, n := range append(counts(), noCounts()...) {
		l := &lock{p: place.Map{N: n}}
		for _, task := range append(noTasks(n), 0, 1, n-1, 63) {
			for _, c := range []int{-1, 0, 15, 1023} {
				l.all(t, task, c)
			}
		}
	}
	if !wait.Stuck(nil, place.Map{N: 2}, api.Parked, 0, api.Wait{Stage: 3}) {
		t.Error("not stuck")
	}
}

// P7.2: it is stuck in the mode Parked, at the stage 3, without a permit, and nowhere else.
func TestStuck(t *testing.T) {
	for _, n := range counts() {
		for task := range n {
			l := whole(t, n)
			for _, x := range []uint32{0, 1, 2, 256, half, top} {
				l.set(permit(n, task), x)
				for _, mode := range append(spins(), api.Parked) {
					for _, stage := range stages() {
						l.stuck(t, mode, task, stage)
					}
				}
				got := wait.Stuck(l.m, l.p, api.Parked, task, api.Wait{Stage: 3})
				if got != (x == 0) {
					t.Errorf("%d of %d tasks, of a permit %#x: %v", task, n, x, got)
				}
			}
		}
	}
}

// P7.2: only the task's own permit lets it out, and it is asked without being taken.
func TestStuckByItself(t *testing.T) {
	l := whole(t, 3)
	for c := range l.want {
		l.set(c, 1)
	}
	l.set(permit(3, 1), 0)
	for range 3 {
		for task := range 3 {
			if got := wait.Stuck(l.m, l.p, api.Parked, task, api.Wait{Stage: 3}); got != (task == 1) {
				t.Errorf("the task %d: %v", task, got)
			}
			l.stays(t)
		}
	}
	if a, ok := park.Give(l.m, l.p, 1); !ok || wait.Stuck(l.m, l.p, api.Parked, 1, api.Wait{Stage: 3}) {
		t.Errorf("%+v, %v: it is stuck", a, ok)
	}
}

// P7.2: it tells ahead of each step whether that will do nothing.
func TestStuckTellsTheStep(t *testing.T) {
	for _, mode := range []int{api.Spin, api.Parked} {
		for _, stage := range stages() {
			for _, x := range []uint32{0, 1, top} {
				l := whole(t, 2)
				l.set(permit(2, 1), x)
				stuck := wait.Stuck(l.m, l.p, mode, 1, api.Wait{Stage: stage})
				w := l.steps(t, mode, 1, stage, 0, seven)
				if stuck != (w.a == (api.Access{})) {
					t.Errorf("in the mode %d, at the stage %d, of a permit %#x: stuck is %v, and it did %+v", mode, stage, x, stuck, w.a)
				}
			}
		}
	}
}

// R6: nothing is kept but in the memory and the stage that are handed in.
func TestMemoriesApart(t *testing.T) {
	a, b := whole(t, 2), whole(t, 2)
	a.all(t, 1, 0)
	b.all(t, 1, 0)
	a.all(t, 0, 3)
	b.all(t, 1, 3)
	a.stays(t)
}
