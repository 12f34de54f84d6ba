package place_test

import (
	"math"
	"slices"
	"strconv"
	"testing"

	"stileman/api"
	"stileman/place"
)

const (
	top  = math.MaxUint32
	half = 1 << 31
)

// kinds are all kinds of locks.
func kinds() []int {
	return []int{api.TaskFair, api.PhaseFair, api.PhaseQueue, api.FairQueue, api.ReadersFirst, api.WritersFirst}
}

// noKinds are numbers that are no kinds of locks.
func noKinds() []int {
	return []int{0, 7, 8, -1, -6, 256 + api.TaskFair, 1<<32 + api.FairQueue, math.MinInt, math.MinInt + 1, math.MaxInt}
}

// noCounts are numbers of tasks that no lock has; four times some of them, round the int, is few or none.
func noCounts() []int {
	return []int{0, 65, 66, 128, 1024, 256 + 3, 1 << 32, 1<<32 + 3, 1 << 61, 1 << 62, 1<<62 + 1, math.MaxInt, -1, -2, -64, -1 << 62, -1<<62 + 3, math.MinInt, math.MinInt + 3}
}

// mapFor makes the map for n tasks, which must be one.
func mapFor(t *testing.T, n int) place.Map {
	t.Helper()
	p, e := place.New(n)
	if e != api.OK || p.N != n {
		t.Fatalf("New(%d): %+v, %v", n, p, e)
	}
	return p
}

// row is one of the four calls that tell a task's cell.
type row struct {
	name string
	cell func(p place.Map, i int) int
}

// rows are the four, in the order in which their cells stand.
func rows() []row {
	return []row{{"next", place.Map.Next}, {"blocked", place.Map.Blocked}, {"watch", place.Map.Watch}, {"permit", place.Map.Permit}}
}

// own are the names of the kind's own cells.
func own(kind int) []string {
	switch kind {
	case api.TaskFair:
		return []string{"users", "reads", "writes"}
	case api.PhaseFair:
		return []string{"rin", "rout", "win", "wout", "phase"}
	case api.PhaseQueue:
		return []string{"rin", "rout", "tail", "phase"}
	case api.FairQueue:
		return []string{"tail", "count"}
	case api.ReadersFirst, api.WritersFirst:
		return []string{"word"}
	}
	return nil
}

// allNames are the names of all cells of a lock of that kind for n tasks, in their order.
func allNames(kind, n int) []string {
	l := make([]string, 8)
	copy(l, own(kind))
	for _, r := range rows() {
		for i := range n {
			l = append(l, r.name+" "+strconv.Itoa(i))
		}
	}
	return l
}

// P3.1: New.
func TestNew(t *testing.T) {
	for n := 1; n <= api.MaxTasks; n++ {
		mapFor(t, n)
	}
	for _, n := range noCounts() {
		if p, e := place.New(n); p != (place.Map{}) || e != api.ErrRange {
			t.Errorf("New(%d): %+v, %v", n, p, e)
		}
	}
}

// P3.1: cells of the first task and of the last one, as the chapter counts them.
func TestCells(t *testing.T) {
	for _, x := range []struct{ n, i, next, blocked, watch, permit, size int }{
		{1, 0, 8, 9, 10, 11, 12},
		{2, 0, 8, 10, 12, 14, 16},
		{2, 1, 9, 11, 13, 15, 16},
		{3, 2, 10, 13, 16, 19, 20},
		{63, 62, 70, 133, 196, 259, 260},
		{64, 0, 8, 72, 136, 200, 264},
		{64, 31, 39, 103, 167, 231, 264},
		{64, 63, 71, 135, 199, 263, 264},
	} {
		p := mapFor(t, x.n)
		got := [5]int{p.Next(x.i), p.Blocked(x.i), p.Watch(x.i), p.Permit(x.i), p.Size()}
		if want := [5]int{x.next, x.blocked, x.watch, x.permit, x.size}; got != want {
			t.Errorf("of %d tasks, the task %d: %v, want %v", x.n, x.i, got, want)
		}
	}
}

// P3.1 and P3.3: of each number of tasks the four calls tell the cells from 8 to the last one, each once, and in their order.
func TestAllCells(t *testing.T) {
	for n := 1; n <= api.MaxTasks; n++ {
		p := mapFor(t, n)
		want := 8
		for _, r := range rows() {
			for i := range n {
				if got := r.cell(p, i); got != want {
					t.Fatalf("of %d tasks, %s %d is %d, want %d", n, r.name, i, got, want)
				}
				want++
			}
		}
		if p.Size() != want {
			t.Errorf("of %d tasks, Size is %d, want %d", n, p.Size(), want)
		}
	}
}

// P3.3: no two of the calls tell one cell, and none tells one of the lock's own.
func TestCellsApart(t *testing.T) {
	for n := 1; n <= api.MaxTasks; n++ {
		p := mapFor(t, n)
		told := map[int]string{}
		for _, r := range rows() {
			for i := range n {
				c := r.cell(p, i)
				if c < 8 || c >= p.Size() || told[c] != "" {
					t.Fatalf("of %d tasks, %s %d is %d, which is %q", n, r.name, i, c, told[c])
				}
				told[c] = r.name
			}
		}
	}
}

// P3.1: a task that isn't there has no cells.
func TestNoTask(t *testing.T) {
	for _, n := range []int{1, 2, 3, 63, 64} {
		p := mapFor(t, n)
		for _, i := range []int{-1, -2, -8, -n, -n - 1, n, n + 1, 2 * n, 64, 65, 1 << 32, math.MinInt, math.MinInt + 1, math.MaxInt, math.MaxInt - 7} {
			noTask(t, p, i)
		}
	}
}

// noTask fails the test, if a call tells a cell of the task i.
func noTask(t *testing.T, p place.Map, i int) {
	t.Helper()
	for _, r := range rows() {
		if got := r.cell(p, i); got != -1 {
			t.Errorf("%+v: %s %d is %d", p, r.name, i, got)
		}
	}
}

// P3.1 and P3.2: a map whose N was set to a number that no lock has tells nothing.
func TestNoMap(t *testing.T) {
	for _, n := range noCounts() {
		p := place.Map{N: n}
		if got := p.Size(); got != 0 {
			t.Errorf("%+v: Size is %d", p, got)
		}
		for _, x := range []int{0, 1, 2, 7, 8, 9, 12, 63, 64, 65, 264, -1, n - 1, n, n + 1, math.MinInt, math.MaxInt} {
			noTask(t, p, x)
			for _, kind := range append(kinds(), noKinds()...) {
				noName(t, p, kind, x)
			}
		}
	}
}

// noName fails the test, if the cell has a name.
func noName(t *testing.T, p place.Map, kind, c int) {
	t.Helper()
	if got := p.Name(kind, c); got != "" {
		t.Errorf("%+v: the cell %d of the kind %d is %q", p, c, kind, got)
	}
}

// P3.1: a map whose N was set to a number from 1 to 64 is that of New.
func TestSetN(t *testing.T) {
	for _, n := range []int{1, 2, 64} {
		p := place.Map{N: n}
		if p != mapFor(t, n) || p.Size() != 8+4*n || p.Permit(n-1) != 7+4*n || p.Name(api.FairQueue, 8) != "next 0" {
			t.Errorf("%+v: %d, %d, %q", p, p.Size(), p.Permit(n-1), p.Name(api.FairQueue, 8))
		}
	}
}

// P3.2: the names that the chapter lists, at the edges.
func TestName(t *testing.T) {
	for _, x := range []struct {
		n, kind, c int
		want       string
	}{
		{1, api.TaskFair, 0, "users"}, {1, api.TaskFair, 2, "writes"}, {1, api.TaskFair, 3, ""},
		{1, api.PhaseFair, 0, "rin"}, {1, api.PhaseFair, 4, "phase"}, {1, api.PhaseFair, 5, ""}, {1, api.PhaseFair, 7, ""},
		{1, api.PhaseFair, 8, "next 0"}, {1, api.PhaseFair, 9, "blocked 0"}, {1, api.PhaseFair, 10, "watch 0"}, {1, api.PhaseFair, 11, "permit 0"}, {1, api.PhaseFair, 12, ""},
		{2, api.PhaseQueue, 2, "tail"}, {2, api.PhaseQueue, 3, "phase"}, {2, api.PhaseQueue, 4, ""}, {2, api.PhaseQueue, 15, "permit 1"}, {2, api.PhaseQueue, 16, ""},
		{64, api.FairQueue, 0, "tail"}, {64, api.FairQueue, 1, "count"}, {64, api.FairQueue, 2, ""}, {64, api.FairQueue, 7, ""},
		{64, api.FairQueue, 8, "next 0"}, {64, api.FairQueue, 71, "next 63"}, {64, api.FairQueue, 72, "blocked 0"}, {64, api.FairQueue, 135, "blocked 63"},
		{64, api.FairQueue, 136, "watch 0"}, {64, api.FairQueue, 199, "watch 63"}, {64, api.FairQueue, 200, "permit 0"}, {64, api.FairQueue, 263, "permit 63"}, {64, api.FairQueue, 264, ""},
		{3, api.ReadersFirst, 0, "word"}, {3, api.ReadersFirst, 1, ""}, {3, api.WritersFirst, 0, "word"}, {3, api.WritersFirst, 1, ""},
	} {
		if got := mapFor(t, x.n).Name(x.kind, x.c); got != x.want {
			t.Errorf("of %d tasks, the cell %d of the kind %d is %q, want %q", x.n, x.c, x.kind, got, x.want)
		}
	}
}

// P3.2: the names of all cells of each kind, for each number of tasks.
func TestAllNames(t *testing.T) {
	for _, kind := range kinds() {
		for n := 1; n <= api.MaxTasks; n++ {
			p := mapFor(t, n)
			for c, want := range allNames(kind, n) {
				if got := p.Name(kind, c); got != want {
					t.Errorf("of %d tasks, the cell %d of the kind %d is %q, want %q", n, c, kind, got, want)
				}
			}
		}
	}
}

// P3.2: a cell that isn't there, and one of no kind, has no name.
func TestNoName(t *testing.T) {
	for _, n := range []int{1, 2, 3, 64} {
		p := mapFor(t, n)
		for _, kind := range kinds() {
			for _, c := range []int{-1, -2, -7, -8, -9, -n, p.Size(), p.Size() + 1, p.Size() + n, 1 << 32, 1<<32 + 8, math.MinInt, math.MinInt + 7, math.MinInt + 8, math.MaxInt, math.MaxInt - 7} {
				noName(t, p, kind, c)
			}
		}
		for _, kind := range noKinds() {
			for _, c := range []int{0, 1, 4, 7, 8, 9, p.Size() - 1, p.Size(), -1, math.MinInt, math.MaxInt} {
				noName(t, p, kind, c)
			}
		}
	}
}

// P3.3: the own cells' words at first, of each kind; all others are 0.
func TestFirst(t *testing.T) {
	for _, x := range []struct {
		kind int
		base uint32
		want []uint32
	}{
		{api.TaskFair, 0, nil}, {api.TaskFair, 5, []uint32{5, 5, 5}}, {api.TaskFair, top, []uint32{top, top, top}}, {api.TaskFair, half, []uint32{half, half, half}},
		{api.PhaseFair, 0, nil}, {api.PhaseFair, 1, []uint32{0x100, 0x100, 1, 1, 1}}, {api.PhaseFair, 0x12345678, []uint32{0x34567800, 0x34567800, 0x12345678, 0x12345678, 0x12345678}},
		{api.PhaseFair, 0xffffff, []uint32{0xffffff00, 0xffffff00, 0xffffff, 0xffffff, 0xffffff}}, {api.PhaseFair, 0x1000000, []uint32{0, 0, 0x1000000, 0x1000000, 0x1000000}}, {api.PhaseFair, top, []uint32{0xffffff00, 0xffffff00, top, top, top}},
		{api.PhaseQueue, 0, nil}, {api.PhaseQueue, 3, []uint32{0x300, 0x300, 0, 3}}, {api.PhaseQueue, top, []uint32{0xffffff00, 0xffffff00, 0, top}}, {api.PhaseQueue, half, []uint32{0, 0, 0, half}},
		{api.FairQueue, 0, nil}, {api.FairQueue, 5, nil}, {api.FairQueue, top, nil},
		{api.ReadersFirst, 0, nil}, {api.ReadersFirst, 5, nil}, {api.ReadersFirst, top, nil},
		{api.WritersFirst, 0, nil}, {api.WritersFirst, 1, []uint32{0x10100}}, {api.WritersFirst, 0x80, []uint32{0x808000}}, {api.WritersFirst, 0xff, []uint32{0xffff00}},
		{api.WritersFirst, 0x100, nil}, {api.WritersFirst, 0x1ff, []uint32{0xffff00}}, {api.WritersFirst, 0x12345678, []uint32{0x787800}}, {api.WritersFirst, top, []uint32{0xffff00}},
	} {
		for n := 1; n <= api.MaxTasks; n++ {
			want := make([]uint32, 8+4*n)
			copy(want, x.want)
			if l, e := place.First(x.kind, n, x.base); e != api.OK || !slices.Equal(l, want) {
				t.Fatalf("First(%d, %d, %#x): %x, %v", x.kind, n, x.base, l, e)
			}
		}
	}
}

// P3.3: a kind that is none, and then a number of tasks that no lock has.
func TestFirstWrong(t *testing.T) {
	for _, kind := range noKinds() {
		for _, n := range append(noCounts(), 1, 2, 64) {
			if l, e := place.First(kind, n, 5); len(l) != 0 || e != api.ErrKind {
				t.Errorf("First(%d, %d): %x, %v", kind, n, l, e)
			}
		}
	}
	for _, kind := range kinds() {
		for _, n := range noCounts() {
			if l, e := place.First(kind, n, 5); len(l) != 0 || e != api.ErrRange {
				t.Errorf("First(%d, %d): %x, %v", kind, n, l, e)
			}
		}
	}
}

// R4 and R6: what First answers may be written over, and it answers the same later.
func TestFirstNewMemory(t *testing.T) {
	for _, kind := range kinds() {
		a, _ := place.First(kind, 2, 7)
		b, _ := place.First(kind, 2, 7)
		was := slices.Clone(a)
		for c := range b {
			b[c] = 99
		}
		c, e := place.First(kind, 2, 7)
		if e != api.OK || !slices.Equal(a, was) || !slices.Equal(c, was) {
			t.Errorf("of the kind %d: %x, then %x, %v", kind, a, c, e)
		}
	}
}
