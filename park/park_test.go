package park_test

import (
	"math"
	"slices"
	"testing"

	"stileman/api"
	"stileman/cells"
	"stileman/park"
	"stileman/place"
)

const (
	top  = math.MaxUint32
	half = 1 << 31
)

// counts are numbers of tasks, with the edges.
func counts() []int {
	return []int{1, 2, 3, 31, 63, 64}
}

// noCounts are numbers of tasks that no lock has; 8 more than three times some of them, round the int, is a cell that is there.
func noCounts() []int {
	return []int{0, -1, -2, -3, -64, 65, 66, 128, 300, 1 << 32, 1<<32 + 2, 1 << 61, 1 << 62, 1<<62 + 1, -1 << 62, math.MaxInt / 3, math.MinInt / 3, math.MinInt, math.MinInt + 1, math.MaxInt - 1, math.MaxInt}
}

// noTasks are numbers of tasks that a lock for n tasks hasn't.
func noTasks(n int) []int {
	return []int{-1, -2, -3, -n, -n - 1, -3*n - 8, n, n + 1, 2 * n, 4 * n, 64, 65, 256, 1 << 32, 1<<32 + 1, math.MinInt, math.MinInt + 1, math.MaxInt - 1, math.MaxInt, math.MaxInt - 3*n - 8}
}

// words are words that a permit's cell may hold; only of 0 there is no permit.
func words() []uint32 {
	return []uint32{0, 1, 2, 3, 9, 255, 256, 1 << 16, half - 1, half, half + 1, top - 1, top}
}

// permit is the cell of the task's permit in a lock for n tasks, as chapter 3 counts it.
func permit(n, task int) int {
	return 8 + 3*n + task
}

// lock is a memory with its map, and the words that its cells are to have.
type lock struct {
	p    place.Map
	m    *cells.Memory
	want []uint32
}

// marked makes a lock for n tasks, with a memory of so many cells; each cell has a word of its own, but there are no permits.
func marked(t *testing.T, n, size int) *lock {
	t.Helper()
	l := &lock{p: place.Map{N: n}, want: make([]uint32, size)}
	for c := range l.want {
		l.want[c] = 0xabc000 + uint32(c)
	}
	for task := range n {
		if c := permit(n, task); c < size {
			l.want[c] = 0
		}
	}
	m, e := cells.From(l.want...)
	if e != api.OK {
		t.Fatalf("a memory of %d cells: %v", size, e)
	}
	l.m = m
	return l
}

// whole makes a lock for n tasks with just as many cells as it needs.
func whole(t *testing.T, n int) *lock {
	t.Helper()
	return marked(t, n, 8+4*n)
}

// set puts the word into the permit's cell.
func (l *lock) set(task int, x uint32) {
	c := permit(l.p.N, task)
	l.m.Store(c, x)
	l.want[c] = x
}

// stays fails the test, if a cell's word is another one than it is to be.
func (l *lock) stays(t *testing.T) {
	t.Helper()
	got := l.m.All()
	if len(got) != len(l.want) {
		t.Fatalf("%d cells, want %d", len(got), len(l.want))
	}
	for c := range got {
		if got[c] != l.want[c] {
			t.Fatalf("of %d tasks, the cell %d is %#x, want %#x", l.p.N, c, got[c], l.want[c])
		}
	}
}

// isThere fails the test, unless There tells what the permit's cell says, and does nothing.
func (l *lock) isThere(t *testing.T, task int) {
	t.Helper()
	want := l.want[permit(l.p.N, task)] != 0
	if got := park.There(l.m, l.p, task); got != want {
		t.Fatalf("There of %d of %d tasks: %v, want %v", task, l.p.N, got, want)
	}
	l.stays(t)
}

// gives gives the permit, and fails the test, unless that is as told.
func (l *lock) gives(t *testing.T, task int) {
	t.Helper()
	c := permit(l.p.N, task)
	want := api.Access{Kind: api.AStore, Cell: c, X: 1, Old: l.want[c]}
	if a, ok := park.Give(l.m, l.p, task); !ok || a != want {
		t.Fatalf("Give of %d of %d tasks: %+v, %v, want %+v", task, l.p.N, a, ok, want)
	}
	l.want[c] = 1
	l.stays(t)
	l.isThere(t, task)
}

// takes takes the permit, and fails the test, unless that is as told, be the permit there or not.
func (l *lock) takes(t *testing.T, task int) {
	t.Helper()
	c := permit(l.p.N, task)
	want := api.Access{}
	if l.want[c] != 0 {
		want = api.Access{Kind: api.ASwap, Cell: c, Old: l.want[c]}
	}
	if a, ok := park.Take(l.m, l.p, task); ok != (l.want[c] != 0) || a != want {
		t.Fatalf("Take of %d of %d tasks, where %#x is: %+v, %v, want %+v", task, l.p.N, l.want[c], a, ok, want)
	}
	l.want[c] = 0
	l.stays(t)
	l.isThere(t, task)
}

// hasNone fails the test, if the task has a permit's cell, or if anything is done.
func (l *lock) hasNone(t *testing.T, task int) {
	t.Helper()
	for range 2 {
		if a, ok := park.Give(l.m, l.p, task); ok || a != (api.Access{}) {
			t.Fatalf("Give of %d of %d tasks: %+v, %v", task, l.p.N, a, ok)
		}
		l.stays(t)
		if park.There(l.m, l.p, task) {
			t.Fatalf("There of %d of %d tasks", task, l.p.N)
		}
		if a, ok := park.Take(l.m, l.p, task); ok || a != (api.Access{}) {
			t.Fatalf("Take of %d of %d tasks: %+v, %v", task, l.p.N, a, ok)
		}
		l.stays(t)
	}
}

// The chapter's example: Give, Give, Take, Take: true, true, true, false.
func TestExample(t *testing.T) {
	m, _ := cells.New(16)
	p := place.Map{N: 2}
	for i, x := range []struct {
		do   func(m *cells.Memory, p place.Map, task int) (api.Access, bool)
		want api.Access
		ok   bool
	}{
		{park.Give, api.Access{Kind: api.AStore, Cell: 15, X: 1}, true},
		{park.Give, api.Access{Kind: api.AStore, Cell: 15, X: 1, Old: 1}, true},
		{park.Take, api.Access{Kind: api.ASwap, Cell: 15, Old: 1}, true},
		{park.Take, api.Access{}, false},
	} {
		if a, ok := x.do(m, p, 1); ok != x.ok || a != x.want {
			t.Errorf("the call %d: %+v, %v, want %+v, %v", i, a, ok, x.want, x.ok)
		}
	}
	if got := m.All(); !slices.Equal(got, make([]uint32, 16)) {
		t.Errorf("%v", got)
	}
}

// P6.1: each task of each number of tasks has a permit of its own.
func TestAllTasks(t *testing.T) {
	for n := 1; n <= api.MaxTasks; n++ {
		l := whole(t, n)
		for task := range n {
			l.isThere(t, task)
			l.takes(t, task)
			l.gives(t, task)
			l.gives(t, task)
		}
		for task := n - 1; task >= 0; task-- {
			l.takes(t, task)
			l.takes(t, task)
		}
	}
}

// P6.1: each call, whatever word the permit's cell holds.
func TestAnyWord(t *testing.T) {
	for _, n := range counts() {
		for _, task := range []int{0, n / 2, n - 1} {
			for _, x := range words() {
				l := whole(t, n)
				l.set(task, x)
				l.isThere(t, task)
				l.gives(t, task)
				l.set(task, x)
				l.takes(t, task)
				l.takes(t, task)
			}
		}
	}
}

// P6.1: There tells it as often as it is asked, and the permit is there still.
func TestThereTakesNothing(t *testing.T) {
	l := whole(t, 3)
	l.gives(t, 1)
	for range 5 {
		for task := range 3 {
			l.isThere(t, task)
		}
	}
	l.takes(t, 1)
	for range 5 {
		l.isThere(t, 1)
	}
}

// P6.1: a task that isn't there has no permit, even if all cells hold one.
func TestNoTask(t *testing.T) {
	for _, n := range counts() {
		l := marked(t, n, api.MaxCells)
		for task := range n {
			l.set(task, 1)
		}
		for _, task := range noTasks(n) {
			if task < 0 || task >= n {
				l.hasNone(t, task)
			}
		}
	}
}

// P6.1: of a map for a number of tasks that no lock has, no task has a permit.
func TestNoMap(t *testing.T) {
	l := marked(t, 1, api.MaxCells)
	for _, n := range noCounts() {
		l.p = place.Map{N: n}
		for _, task := range append(noTasks(n), 0, 1, 2, 7, 8, 62, 63) {
			l.hasNone(t, task)
		}
	}
}

// P6.1: a memory of fewer cells has only the permits of the first tasks, or none.
func TestFewerCells(t *testing.T) {
	for _, n := range counts() {
		for size := range 8 + 4*n {
			l := marked(t, n, size)
			for _, task := range []int{0, 1, size - 8 - 3*n - 1, size - 8 - 3*n, n - 2, n - 1} {
				switch {
				case task < 0 || task >= n:
				case permit(n, task) < size:
					l.takes(t, task)
					l.gives(t, task)
					l.takes(t, task)
				default:
					l.hasNone(t, task)
				}
			}
		}
	}
}

// P6.1: of a memory that lacks just its last cell, the last task alone has no permit.
func TestOneCellLess(t *testing.T) {
	for _, n := range counts() {
		l := marked(t, n, 8+4*n-1)
		l.hasNone(t, n-1)
		for task := range n - 1 {
			l.gives(t, task)
			l.takes(t, task)
		}
		l.hasNone(t, n-1)
	}
}

// P6.1: of a memory of more cells, those behind the last permit are touched by nothing.
func TestMoreCells(t *testing.T) {
	for _, n := range counts() {
		for _, size := range []int{8 + 4*n + 1, api.MaxCells} {
			l := marked(t, n, size)
			for _, task := range []int{0, n - 1} {
				l.gives(t, task)
				l.takes(t, task)
				l.takes(t, task)
			}
			l.hasNone(t, n)
		}
	}
}

// P6.1: a nil memory has no permits.
func TestNilMemory(t *testing.T) {
	for _, n := range append(counts(), noCounts()...) {
		l := &lock{p: place.Map{N: n}}
		for _, task := range append(noTasks(n), 0, 1, n-1, 63) {
			l.hasNone(t, task)
		}
	}
}

// P6.2: given so often, it is taken once.
func TestGivenOften(t *testing.T) {
	for _, n := range []int{1, 2, 64} {
		for _, task := range []int{0, n - 1} {
			l := whole(t, n)
			for often := range 10 {
				for range often {
					l.gives(t, task)
				}
				taken := 0
				for range often + 2 {
					if _, ok := park.Take(l.m, l.p, task); ok {
						taken++
					}
				}
				if want := min(often, 1); taken != want {
					t.Errorf("given %d times to %d of %d tasks, it is taken %d times, want %d", often, task, n, taken, want)
				}
				l.set(task, 0)
			}
		}
	}
}

// P6.2: all rows of nine calls on two tasks of three.
func TestAllRows(t *testing.T) {
	const calls = 9
	for row := range 1 << (2 * calls) {
		p := place.Map{N: 3}
		m, _ := cells.New(20)
		var there [3]bool
		for i := range calls {
			task, give := 2*(row>>(2*i)&1), row>>(2*i+1)&1 == 1
			if give {
				_, ok := park.Give(m, p, task)
				there[task] = true
				if !ok {
					t.Fatalf("the row %#x: the call %d gives nothing", row, i)
				}
			} else {
				_, ok := park.Take(m, p, task)
				if ok != there[task] {
					t.Fatalf("the row %#x: the call %d takes: %v", row, i, ok)
				}
				there[task] = false
			}
		}
		for task := range there {
			if park.There(m, p, task) != there[task] {
				t.Fatalf("the row %#x: at last, There of %d isn't %v", row, task, there[task])
			}
		}
	}
}

// P6.2: one task's permit is given and taken without those of the others.
func TestOthersStay(t *testing.T) {
	for _, n := range counts() {
		l := whole(t, n)
		for task := range n {
			l.gives(t, task)
		}
		for task := 0; task < n; task += 2 {
			l.takes(t, task)
		}
		for task := range n {
			l.isThere(t, task)
		}
		for task := range n {
			l.takes(t, task)
			l.takes(t, task)
		}
	}
}

// R6: nothing is kept but in the memory that is handed in, and a map is nothing but its number.
func TestMemoriesApart(t *testing.T) {
	a, b := whole(t, 2), whole(t, 2)
	a.gives(t, 1)
	b.isThere(t, 1)
	b.takes(t, 1)
	a.takes(t, 1)
	b.gives(t, 0)
	a.takes(t, 0)
	a.p, _ = place.New(2)
	a.gives(t, 0)
	a.p = place.Map{N: 2}
	a.takes(t, 0)
	b.takes(t, 0)
}

// P6.1: cells are counted anew of each map, be the memory the same.
func TestOneMemoryTwoMaps(t *testing.T) {
	l := marked(t, 64, api.MaxCells)
	for task := range 64 {
		l.gives(t, task)
	}
	// The permit of the task 0 of three is the cell 17, which is the cell next of the task 9 of 64.
	l.p = place.Map{N: 3}
	l.takes(t, 0)
	l.p = place.Map{N: 64}
	for task := range 64 {
		l.isThere(t, task)
	}
	if l.m.Load(17) != 0 {
		t.Error(l.m.Load(17))
	}
}
