package wake_test

import (
	"math"
	"slices"
	"testing"

	"stileman/api"
	"stileman/cells"
	"stileman/park"
	"stileman/place"
	"stileman/wait"
	"stileman/wake"
)

const (
	top  = math.MaxUint32
	half = 1 << 31
)

// counts are numbers of tasks, with the edges.
func counts() []int {
	return []int{1, 2, 3, 31, 63, 64}
}

// noCounts are numbers of tasks that no lock has; twice some of them, round the int, and some more, is a cell that is there.
func noCounts() []int {
	return []int{0, -1, -2, -3, -64, 65, 66, 128, 300, 1 << 32, 1<<32 + 2, 1 << 61, 1 << 62, 1<<62 + 1, -1 << 62, math.MaxInt / 3, math.MinInt / 3, math.MinInt, math.MinInt + 1, math.MaxInt - 1, math.MaxInt}
}

// noTasks are numbers of tasks that a lock for n tasks hasn't; some of those below 0 would meet cells that are there, were they counted on.
func noTasks(n int) []int {
	l := []int{-1, -2, -n, -n - 1, -2*n - 8, -3*n - 8, n, n + 1, 2 * n, 64, 65, 256, 1 << 32, 1<<32 + 1, math.MinInt, math.MinInt + 1, math.MaxInt - 1, math.MaxInt, math.MaxInt - 2*n - 8}
	return slices.DeleteFunc(l, func(i int) bool { return i >= 0 && i < n })
}

// anyCells are numbers of cells, with the edges, of a lock's cells and of none.
func anyCells(n int) []int {
	return []int{0, 1, 7, 8, 8 + 2*n, 8 + 4*n - 1, 8 + 4*n, api.MaxCells - 1, api.MaxCells, half - 1, half, top - 1, top, 1 << 32, 1<<32 + 4, -1, -2, -1 << 31, math.MinInt, math.MinInt + 1, math.MaxInt - 1, math.MaxInt}
}

// noModes are modes in which nobody has to be woken.
func noModes() []int {
	return []int{api.Spin, 0, -1, -2, 3, 4, 1 << 32, 1<<32 + api.Parked, math.MinInt, math.MaxInt}
}

// words are words that a cell may hold.
func words() []uint32 {
	return []uint32{0, 1, 2, 9, 255, 256, 1 << 16, half - 1, half, top - 1, top}
}

// watch is the cell of the task's watch in a lock for n tasks, as chapter 3 counts it; -1: there is none.
func watch(n, task int) int {
	if n < 1 || n > 64 || task < 0 || task >= n {
		return -1
	}
	return 8 + 2*n + task
}

// permit is the cell of the task's permit, likewise.
func permit(n, task int) int {
	if watch(n, task) < 0 {
		return -1
	}
	return 8 + 3*n + task
}

// lock is a memory with its map, and the words that its cells are to have.
type lock struct {
	p    place.Map
	m    *cells.Memory
	want []uint32
}

// marked makes a lock for n tasks, with a memory of so many cells; each cell has a word of its own.
func marked(t *testing.T, n, size int) *lock {
	t.Helper()
	l := &lock{p: place.Map{N: n}, want: make([]uint32, size)}
	for c := range l.want {
		l.want[c] = 0xabc000 + uint32(c)
	}
	m, e := cells.From(l.want...)
	if e != api.OK {
		t.Fatalf("a memory of %d cells: %v", size, e)
	}
	l.m = m
	return l
}

// whole makes a lock for n tasks with just as many cells as it needs.
func whole(t *testing.T, n int) *lock {
	t.Helper()
	return marked(t, n, 8+4*n)
}

// has tells whether the cell is there.
func (l *lock) has(c int) bool {
	return c >= 0 && c < len(l.want)
}

// set puts the word into the cell, if it is there.
func (l *lock) set(c int, x uint32) {
	if l.has(c) {
		l.m.Store(c, x)
		l.want[c] = x
	}
}

// stays fails the test, if a cell's word is another one than it is to be.
func (l *lock) stays(t *testing.T) {
	t.Helper()
	if got := l.m.All(); !slices.Equal(got, l.want) {
		t.Fatalf("of %d tasks, the cells are %x, want %x", l.p.N, got, l.want)
	}
}

// told is what the chapter tells of a step of w, and the words behind it are those that are wanted from then on.
func (l *lock) told(w api.Wake) (api.Wake, api.Access) {
	c := watch(l.p.N, w.I)
	if w.Hit {
		c = permit(l.p.N, w.I)
	}
	if !w.On || !l.has(c) {
		return api.Wake{}, api.Access{}
	}
	a := api.Access{Kind: api.ALoad, Cell: c, Old: l.want[c]}
	if w.Hit {
		a.Kind, a.X = api.AStore, 1
		l.want[c] = 1
	} else if l.want[c] == uint32(uint64(w.Cell)+1) {
		w.Hit = true
		return w, a
	}
	w.Hit, w.I = false, w.I+1
	if w.I == l.p.N {
		w = api.Wake{}
	}
	return w, a
}

// steps does a step of w, and fails the test, unless it is as told, and no other cell is touched.
func (l *lock) steps(t *testing.T, w api.Wake) api.Wake {
	t.Helper()
	next, a := l.told(w)
	got, b := wake.Step(l.m, l.p, w)
	if got != next || b != a {
		t.Fatalf("Step of %+v, of %d tasks: %+v, %+v, want %+v, %+v", w, l.p.N, got, b, next, a)
	}
	l.stays(t)
	return got
}

// rests fails the test, unless a step of w does nothing, and answers zero values.
func (l *lock) rests(t *testing.T, w api.Wake) {
	t.Helper()
	if next, a := wake.Step(l.m, l.p, w); next != (api.Wake{}) || a != (api.Access{}) {
		t.Fatalf("Step of %+v, of %d tasks: %+v, %+v", w, l.p.N, next, a)
	}
	l.stays(t)
}

// wakes begins a wake-up of the cell c, steps it until it isn't on, and fails the test, unless all is as told; it answers how many steps that took.
func (l *lock) wakes(t *testing.T, c int) int {
	t.Helper()
	steps := 0
	for w := wake.Begin(api.Parked, c); w.On; steps++ {
		// Were it to go on for ever, the test should end all the same.
		if steps > 2*l.p.N {
			t.Fatalf("a wake-up of %d, of %d tasks, is on behind %d steps: %+v", c, l.p.N, steps, w)
		}
		w = l.steps(t, w)
	}
	return steps
}

// The chapter's example: two tasks, the second of which watches the cell: load, load, store.
func TestExample(t *testing.T) {
	m, _ := cells.New(16)
	p := place.Map{N: 2}
	m.Store(13, 6)
	w := wake.Begin(api.Parked, 5)
	for i, x := range []struct {
		w api.Wake
		a api.Access
	}{
		{api.Wake{On: true, Cell: 5, I: 1}, api.Access{Kind: api.ALoad, Cell: 12}},
		{api.Wake{On: true, Cell: 5, I: 1, Hit: true}, api.Access{Kind: api.ALoad, Cell: 13, Old: 6}},
		{api.Wake{}, api.Access{Kind: api.AStore, Cell: 15, X: 1}},
	} {
		var a api.Access
		w, a = wake.Step(m, p, w)
		if w != x.w || a != x.a {
			t.Fatalf("the step %d: %+v, %+v, want %+v, %+v", i, w, a, x.w, x.a)
		}
	}
	want := make([]uint32, 16)
	want[13], want[15] = 6, 1
	if got := m.All(); !slices.Equal(got, want) {
		t.Errorf("%v, want %v", got, want)
	}
}

// P8.1: in the mode Parked it is on, of the cell, from the task 0 on, whatever the cell is.
func TestBegin(t *testing.T) {
	for _, n := range counts() {
		for _, c := range anyCells(n) {
			if w := wake.Begin(api.Parked, c); w != (api.Wake{On: true, Cell: c}) {
				t.Errorf("of the cell %d: %+v", c, w)
			}
		}
	}
}

// P8.1: in all other modes it is zero, and a step of it does nothing.
func TestBeginOfOtherModes(t *testing.T) {
	l := whole(t, 2)
	l.set(watch(2, 0), 6)
	l.set(watch(2, 1), 6)
	for _, mode := range noModes() {
		for _, c := range anyCells(2) {
			if w := wake.Begin(mode, c); w != (api.Wake{}) {
				t.Errorf("in the mode %d, of the cell %d: %+v", mode, c, w)
			}
		}
		l.rests(t, wake.Begin(mode, 5))
	}
}

// P8.2: single steps, of watches that name the cell, name another one, or none.
func TestStep(t *testing.T) {
	for _, x := range []struct {
		watch, permit uint32
		w, next       api.Wake
		a             api.Access
		behind        uint32 // the permit's word behind the step
	}{
		{6, 0, api.Wake{On: true, Cell: 5, I: 1}, api.Wake{On: true, Cell: 5, I: 1, Hit: true}, api.Access{Kind: api.ALoad, Cell: 15, Old: 6}, 0},
		{5, 0, api.Wake{On: true, Cell: 5, I: 1}, api.Wake{On: true, Cell: 5, I: 2}, api.Access{Kind: api.ALoad, Cell: 15, Old: 5}, 0},
		{7, 9, api.Wake{On: true, Cell: 5, I: 1}, api.Wake{On: true, Cell: 5, I: 2}, api.Access{Kind: api.ALoad, Cell: 15, Old: 7}, 9},
		{0, 1, api.Wake{On: true, Cell: 5, I: 1}, api.Wake{On: true, Cell: 5, I: 2}, api.Access{Kind: api.ALoad, Cell: 15}, 1},
		{top, 0, api.Wake{On: true, Cell: 5, I: 1}, api.Wake{On: true, Cell: 5, I: 2}, api.Access{Kind: api.ALoad, Cell: 15, Old: top}, 0},
		{1, 0, api.Wake{On: true, Cell: 0, I: 1}, api.Wake{On: true, Cell: 0, I: 1, Hit: true}, api.Access{Kind: api.ALoad, Cell: 15, Old: 1}, 0},
		{0, 0, api.Wake{On: true, Cell: 0, I: 1}, api.Wake{On: true, Cell: 0, I: 2}, api.Access{Kind: api.ALoad, Cell: 15}, 0},
		{20, 0, api.Wake{On: true, Cell: 19, I: 1}, api.Wake{On: true, Cell: 19, I: 1, Hit: true}, api.Access{Kind: api.ALoad, Cell: 15, Old: 20}, 0},
		{6, 0, api.Wake{On: true, Cell: 5, I: 1, Hit: true}, api.Wake{On: true, Cell: 5, I: 2}, api.Access{Kind: api.AStore, Cell: 18, X: 1}, 1},
		{6, 1, api.Wake{On: true, Cell: 5, I: 1, Hit: true}, api.Wake{On: true, Cell: 5, I: 2}, api.Access{Kind: api.AStore, Cell: 18, X: 1, Old: 1}, 1},
		{6, 9, api.Wake{On: true, Cell: 5, I: 1, Hit: true}, api.Wake{On: true, Cell: 5, I: 2}, api.Access{Kind: api.AStore, Cell: 18, X: 1, Old: 9}, 1},
		{6, top, api.Wake{On: true, Cell: 5, I: 1, Hit: true}, api.Wake{On: true, Cell: 5, I: 2}, api.Access{Kind: api.AStore, Cell: 18, X: 1, Old: top}, 1},
		{7, 0, api.Wake{On: true, Cell: 5, I: 1, Hit: true}, api.Wake{On: true, Cell: 5, I: 2}, api.Access{Kind: api.AStore, Cell: 18, X: 1}, 1},
		{0, 0, api.Wake{On: true, Cell: 5, I: 1, Hit: true}, api.Wake{On: true, Cell: 5, I: 2}, api.Access{Kind: api.AStore, Cell: 18, X: 1}, 1},
	} {
		l := whole(t, 3)
		l.set(15, x.watch)
		l.set(18, x.permit)
		next, a := wake.Step(l.m, l.p, x.w)
		if next != x.next || a != x.a {
			t.Errorf("%+v, where the watch is %#x, and the permit %#x: %+v, %+v, want %+v, %+v", x.w, x.watch, x.permit, next, a, x.next, x.a)
		}
		l.want[18] = x.behind
		l.stays(t)
	}
}

// P8.2: behind the last task's last step the wake-up is zero; that is the only one that ends it.
func TestLastTask(t *testing.T) {
	for _, n := range counts() {
		for _, hit := range []bool{false, true} {
			for task := range n {
				l := whole(t, n)
				next, a := wake.Step(l.m, l.p, api.Wake{On: true, Cell: 3, I: task, Hit: hit})
				want := api.Wake{On: true, Cell: 3, I: task + 1}
				if task == n-1 {
					want = api.Wake{}
				}
				if next != want || a == (api.Access{}) {
					t.Errorf("%d of %d tasks, %v: %+v, %+v, want %+v", task, n, hit, next, a, want)
				}
			}
		}
		l := whole(t, n)
		l.set(8+3*n-1, 4)
		next, a := wake.Step(l.m, l.p, api.Wake{On: true, Cell: 3, I: n - 1})
		if next != (api.Wake{On: true, Cell: 3, I: n - 1, Hit: true}) || a != (api.Access{Kind: api.ALoad, Cell: 8 + 3*n - 1, Old: 4}) {
			t.Errorf("the last one of %d tasks, that watches: %+v, %+v", n, next, a)
		}
		next, a = wake.Step(l.m, l.p, next)
		if next != (api.Wake{}) || a != (api.Access{Kind: api.AStore, Cell: 8 + 4*n - 1, X: 1, Old: l.want[8+4*n-1]}) {
			t.Errorf("the last one of %d tasks, that is given its permit: %+v, %+v", n, next, a)
		}
	}
}

// P8.2: each task of each number of tasks, whatever it watches.
func TestAllTasks(t *testing.T) {
	for n := 1; n <= api.MaxTasks; n++ {
		for task := range n {
			for _, x := range []uint32{0, 7, 8, 9, top} {
				for _, hit := range []bool{false, true} {
					l := whole(t, n)
					l.set(watch(n, task), x)
					l.steps(t, api.Wake{On: true, Cell: 7, I: task, Hit: hit})
				}
			}
		}
	}
}

// P8.2: whatever words the watch and the permit hold.
func TestAnyWord(t *testing.T) {
	for _, n := range []int{1, 2, 64} {
		for _, task := range []int{0, n - 1} {
			for _, x := range words() {
				for _, y := range words() {
					l := whole(t, n)
					for _, hit := range []bool{false, true} {
						for _, c := range []int{0, 1, 8, int(x), int(x) - 1} {
							l.set(watch(n, task), x)
							l.set(permit(n, task), y)
							l.steps(t, api.Wake{On: true, Cell: c, I: task, Hit: hit})
						}
					}
				}
			}
		}
	}
}

// P8.2: the cell's number, and 1 more, is a word, round which it goes, be the cell there or not.
func TestCellGoesRound(t *testing.T) {
	for _, x := range []struct {
		c    int
		want uint32
	}{
		{0, 1}, {15, 16}, {1023, 1024}, {1024, 1025}, {-1, 0}, {-2, top}, {-3, top - 1}, {top - 1, top}, {top, 0}, {1 << 32, 1}, {1<<32 + 4, 5}, {math.MaxInt, 0}, {math.MinInt, 1},
	} {
		for _, y := range []uint32{x.want - 1, x.want, x.want + 1} {
			l := whole(t, 2)
			l.set(12, y)
			next, a := wake.Step(l.m, l.p, api.Wake{On: true, Cell: x.c})
			want := api.Wake{On: true, Cell: x.c, Hit: true}
			if y != x.want {
				want = api.Wake{On: true, Cell: x.c, I: 1}
			}
			if next != want || a != (api.Access{Kind: api.ALoad, Cell: 12, Old: y}) {
				t.Errorf("the cell %d, where the watch is %#x: %+v, %+v, want %+v", x.c, y, next, a, want)
			}
			l.stays(t)
		}
	}
}

// P8.2: a wake-up of any cell gives a permit all the same.
func TestAnyCellGives(t *testing.T) {
	for _, n := range []int{1, 2, 64} {
		for _, c := range anyCells(n) {
			for _, task := range []int{0, n - 1} {
				l := whole(t, n)
				l.steps(t, api.Wake{On: true, Cell: c, I: task, Hit: true})
				l.steps(t, api.Wake{On: true, Cell: c, I: task})
			}
		}
	}
}

// P8.2: a wake-up that isn't on does nothing, whatever its other parts are.
func TestNotOn(t *testing.T) {
	for _, n := range counts() {
		l := whole(t, n)
		for task := range n {
			l.set(watch(n, task), 4)
		}
		for _, hit := range []bool{false, true} {
			for _, i := range append(noTasks(n), 0, n/2, n-1) {
				for _, c := range append(anyCells(n), 3) {
					l.rests(t, api.Wake{Cell: c, I: i, Hit: hit})
				}
			}
		}
	}
}

// P8.2: at a task that isn't there nothing is done, even if all cells are there.
func TestNoTask(t *testing.T) {
	for _, n := range counts() {
		l := marked(t, n, api.MaxCells)
		for _, i := range noTasks(n) {
			for _, hit := range []bool{false, true} {
				for _, c := range []int{-1, 0, 3, int(l.want[watch(n, 0)]) - 1} {
					l.rests(t, api.Wake{On: true, Cell: c, I: i, Hit: hit})
				}
			}
		}
	}
}

// P8.2: of a map for a number of tasks that no lock has, nothing is done.
func TestNoMap(t *testing.T) {
	l := marked(t, 1, api.MaxCells)
	for _, n := range noCounts() {
		l.p = place.Map{N: n}
		for _, i := range []int{0, 1, 2, 63, 64, 65, -1, n - 1, n, n + 1, math.MinInt, math.MaxInt} {
			for _, hit := range []bool{false, true} {
				l.rests(t, api.Wake{On: true, Cell: 3, I: i, Hit: hit})
				l.rests(t, api.Wake{On: true, Cell: -1, I: i, Hit: hit})
			}
		}
	}
}

// P8.2: of a memory of fewer cells a step whose cell isn't there does nothing, and the other ones are as told.
func TestFewerCells(t *testing.T) {
	for _, n := range []int{1, 2, 5, 64} {
		for size := range 8 + 4*n {
			l := marked(t, n, size)
			for _, i := range []int{0, 1, size - 8 - 2*n - 1, size - 8 - 2*n, size - 8 - 3*n - 1, size - 8 - 3*n, n - 1} {
				for _, hit := range []bool{false, true} {
					l.steps(t, api.Wake{On: true, Cell: 3, I: i, Hit: hit})
					// A watch that isn't there isn't one of 0.
					l.steps(t, api.Wake{On: true, Cell: -1, I: i, Hit: hit})
				}
			}
		}
	}
}

// P8.2: where the watch is there, and the permit isn't, the task is hit, and the wake-up ends with the step that would give the permit.
func TestNoPermit(t *testing.T) {
	for _, n := range counts() {
		l := marked(t, n, 8+3*n)
		l.set(watch(n, 0), 4)
		if steps := l.wakes(t, 3); steps != 2 {
			t.Errorf("of %d tasks: %d steps", n, steps)
		}
		l.rests(t, api.Wake{On: true, Cell: 3, Hit: true})
	}
}

// P8.2: where the last watch isn't there, the wake-up ends at it.
func TestNoWatch(t *testing.T) {
	for _, n := range counts() {
		l := marked(t, n, 8+3*n-1)
		if steps := l.wakes(t, 3); steps != n {
			t.Errorf("of %d tasks: %d steps", n, steps)
		}
		l.rests(t, api.Wake{On: true, Cell: 3, I: n - 1})
	}
}

// P8.2: of a nil memory nothing is done.
func TestNilMemory(t *testing.T) {
	for _, n := range append(counts(), noCounts()...) {
		l := &lock{p: place.Map{N: n}}
		for _, i := range []int{0, 1, n - 1, n, -1, 63, math.MaxInt} {
			for _, c := range []int{-1, 0, 3, top} {
				for _, hit := range []bool{false, true} {
					l.rests(t, api.Wake{On: true, Cell: c, I: i, Hit: hit})
				}
			}
		}
	}
}

// P8.2: of a memory of more cells, those behind are touched by nothing.
func TestMoreCells(t *testing.T) {
	for _, n := range counts() {
		for _, size := range []int{8 + 4*n + 1, api.MaxCells} {
			l := marked(t, n, size)
			l.set(watch(n, n-1), uint32(size))
			l.wakes(t, size-1)
			l.rests(t, api.Wake{On: true, Cell: size - 1, I: n})
			l.rests(t, api.Wake{On: true, Cell: size - 1, I: n, Hit: true})
		}
	}
}

// P8.3: the tasks of each set of them watch the cell, the other ones another cell, or none.
func TestAllSets(t *testing.T) {
	const c = 3
	for n := 1; n <= 7; n++ {
		for set := range 1 << n {
			for _, other := range []uint32{0, c, c + 2, top} {
				l := whole(t, n)
				want := make([]uint32, n) // the permits behind it
				hits := 0
				for task := range n {
					x, y := other, uint32(0)
					if set>>task&1 == 1 {
						x, y = c+1, 1
						hits++
					}
					l.set(watch(n, task), x)
					l.set(permit(n, task), 0)
					want[task] = y
				}
				if steps := l.wakes(t, c); steps != n+hits {
					t.Fatalf("the set %#x of %d tasks: %d steps", set, n, steps)
				}
				if got := l.m.All()[8+3*n:]; !slices.Equal(got, want) {
					t.Fatalf("the set %#x of %d tasks: the permits are %v, want %v", set, n, got, want)
				}
			}
		}
	}
}

// P8.3: no task, some and all of them, of each number of tasks and of cells with the edges; a permit that was there is there still.
func TestWholeWakeUps(t *testing.T) {
	for _, n := range counts() {
		for _, c := range anyCells(n) {
			for _, of := range []int{1, 2, 3, 64, 100} {
				for _, old := range []uint32{0, 1, 9, top} {
					l := whole(t, n)
					hits := 0
					for task := range n {
						l.set(permit(n, task), old)
						l.set(watch(n, task), uint32(c)+2)
						if task%of == of-1 {
							l.set(watch(n, task), uint32(c)+1)
							hits++
						}
					}
					steps := l.wakes(t, c)
					if steps != n+hits || steps > 2*n {
						t.Fatalf("%d of %d tasks watch the cell %d: %d steps", hits, n, c, steps)
					}
					for task := range n {
						want := old
						if task%of == of-1 {
							want = 1
						}
						if got := l.m.Load(8 + 3*n + task); got != want {
							t.Fatalf("of the cell %d, the permit of %d of %d tasks is %#x, want %#x", c, task, n, got, want)
						}
					}
				}
			}
		}
	}
}

// P8.3: who only holds the cell's number, and 1 more, in another cell than its watch isn't given a permit.
func TestWatchesAlone(t *testing.T) {
	for _, n := range counts() {
		l := whole(t, n)
		for c := range l.want {
			l.set(c, 4)
		}
		for task := range n {
			l.set(watch(n, task), 0)
			l.set(permit(n, task), 0)
		}
		if steps := l.wakes(t, 3); steps != n {
			t.Errorf("of %d tasks: %d steps", n, steps)
		}
	}
}

// P8.3: a task's watch counts as it is at the step that looks at it: what it is ahead of that, or behind it, plays no part.
func TestWatchesChange(t *testing.T) {
	l := whole(t, 3)
	l.set(watch(3, 0), 0)
	l.set(watch(3, 1), 4)
	l.set(watch(3, 2), 0)
	for task := range 3 {
		l.set(permit(3, task), 0)
	}
	w := l.steps(t, wake.Begin(api.Parked, 3))
	l.set(watch(3, 0), 4)
	w = l.steps(t, w)
	l.set(watch(3, 1), 0)
	w = l.steps(t, w)
	l.set(watch(3, 2), 4)
	w = l.steps(t, w)
	w = l.steps(t, w)
	if w.On {
		t.Errorf("%+v", w)
	}
	if got := l.m.All()[17:]; !slices.Equal(got, []uint32{0, 1, 1}) {
		t.Errorf("the permits are %v", got)
	}
}

// P8.3: parked tasks, each of which waits for one of two cells, are woken by the wake-up of theirs.
func TestWakesThoseThatWait(t *testing.T) {
	for _, n := range counts() {
		m, _ := cells.New(8 + 4*n)
		p := place.Map{N: n}
		stages := make([]api.Wait, n)
		for task := range n {
			for !wait.Stuck(m, p, api.Parked, task, stages[task]) {
				stages[task], _, _, _ = wait.Step(m, p, api.Parked, task, stages[task], task%2, nil)
			}
		}
		for c := range 2 {
			w := wake.Begin(api.Parked, c)
			for range 2 * n {
				w, _ = wake.Step(m, p, w)
			}
			if w.On {
				t.Errorf("of %d tasks: %+v", n, w)
			}
			for task := range n {
				if woken := task%2 <= c; wait.Stuck(m, p, api.Parked, task, stages[task]) == woken || park.There(m, p, task) != woken {
					t.Errorf("behind the wake-up of %d, %d of %d tasks: woken should be %v", c, task, n, woken)
				}
			}
		}
	}
}

// R6: nothing is kept but in the memory and the wake-up that are handed in.
func TestMemoriesApart(t *testing.T) {
	a, b := whole(t, 2), whole(t, 2)
	a.set(watch(2, 0), 4)
	w := wake.Begin(api.Parked, 3)
	hit := a.steps(t, w)
	next := b.steps(t, w)
	b.steps(t, hit)
	a.steps(t, next)
	a.steps(t, w)
	a.steps(t, hit)
	b.p, _ = place.New(2)
	b.steps(t, next)
	a.stays(t)
}

// R6: one wake-up, stepped again of a map for another number of tasks, goes by that.
func TestTwoMaps(t *testing.T) {
	l := marked(t, 64, api.MaxCells)
	w := api.Wake{On: true, Cell: 3, I: 2}
	for _, n := range []int{64, 3, 4, 2, 1, 64} {
		l.p = place.Map{N: n}
		l.steps(t, w)
		l.steps(t, api.Wake{On: true, Cell: 3, I: 2, Hit: true})
	}
}
