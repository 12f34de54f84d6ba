package cells_test

import (
	"math"
	"slices"
	"testing"

	"stileman/api"
	"stileman/cells"
)

const top = math.MaxUint32

// from makes a memory of these words, which must be few enough.
func from(t *testing.T, l ...uint32) *cells.Memory {
	t.Helper()
	m, e := cells.From(l...)
	if e != api.OK || m == nil {
		t.Fatalf("From of %d words: %v, %v", len(l), m, e)
	}
	return m
}

// holds fails the test, if the memory's words are others than these.
func holds(t *testing.T, m *cells.Memory, want ...uint32) {
	t.Helper()
	if got := m.All(); !slices.Equal(got, want) {
		t.Fatalf("All is %v, want %v", got, want)
	}
	if m.Len() != len(want) {
		t.Fatalf("Len is %d, want %d", m.Len(), len(want))
	}
}

// row makes n words, from x on.
func row(n int, x uint32) []uint32 {
	l := make([]uint32, n)
	for i := range l {
		l[i] = x + uint32(i)
	}
	return l
}

// notThere are cells that a memory of three words hasn't.
func notThere() []int {
	return []int{-1, 3, 4, 1023, 1024, 1 << 32, 1<<32 + 1, math.MinInt, math.MaxInt}
}

// noKinds are numbers that are no kinds of accesses.
func noKinds() []int {
	return []int{api.ANone, 6, 7, -1, 256 + api.ALoad, 1<<32 + api.AStore, math.MinInt, math.MaxInt}
}

// P1.1: New.
func TestNew(t *testing.T) {
	for _, n := range []int{0, 1, 2, 64, 1023, api.MaxCells} {
		m, e := cells.New(n)
		if e != api.OK || m == nil {
			t.Fatalf("New(%d): %v, %v", n, m, e)
		}
		holds(t, m, make([]uint32, n)...)
		m.Store(n-1, 9)
		if n > 0 && m.Load(n-1) != 9 {
			t.Errorf("New(%d): its last cell isn't there", n)
		}
		m.Store(n, 9)
		if m.Load(n) != 0 || m.Len() != n {
			t.Errorf("New(%d): there is a cell behind its last one", n)
		}
	}
	for _, n := range []int{-1, -1024, math.MinInt, 1025, 1 << 20, 1 << 32, math.MaxInt} {
		if m, e := cells.New(n); m != nil || e != api.ErrRange {
			t.Errorf("New(%d): %v, %v", n, m, e)
		}
	}
}

// P1.1: each New is a memory of its own.
func TestNewApart(t *testing.T) {
	a, _ := cells.New(2)
	b, _ := cells.New(2)
	a.Store(0, 5)
	holds(t, a, 5, 0)
	holds(t, b, 0, 0)
}

// P1.1: From, Len and All.
func TestFrom(t *testing.T) {
	holds(t, from(t))
	holds(t, from(t, []uint32{}...))
	holds(t, from(t, 7), 7)
	holds(t, from(t, 0, top, 1<<31, 3), 0, top, 1<<31, 3)
	for _, n := range []int{1023, api.MaxCells} {
		holds(t, from(t, row(n, 100)...), row(n, 100)...)
	}
	for _, n := range []int{1025, 2048} {
		if m, e := cells.From(row(n, 0)...); m != nil || e != api.ErrRange {
			t.Errorf("From of %d words: %v, %v", n, m, e)
		}
	}
}

// P1.1: a list that is handed in is neither kept nor changed, nor what lies behind its length.
func TestFromKeepsNothing(t *testing.T) {
	long := []uint32{1, 2, 3, 4, 5}
	m := from(t, long[1:3]...)
	m.Store(0, 20)
	m.Store(1, 30)
	m.Store(2, 40)
	if !slices.Equal(long, []uint32{1, 2, 3, 4, 5}) {
		t.Fatalf("the list is %v", long)
	}
	for i := range long {
		long[i] = 99
	}
	holds(t, m, 20, 30)
}

// P1.1: what All answers may be written over, and doesn't change later.
func TestAllNewMemory(t *testing.T) {
	m := from(t, 1, 2, 3)
	a, b := m.All(), m.All()
	a[0] = 77
	a = append(a, 78)
	m.Store(1, 5)
	holds(t, m, 1, 5, 3)
	if !slices.Equal(b, []uint32{1, 2, 3}) || !slices.Equal(a, []uint32{77, 2, 3, 78}) {
		t.Fatal(a, b)
	}
}

// P1.2: each call on a cell that is there, and on no other one.
func TestCalls(t *testing.T) {
	m := from(t, 10, 20, 30)
	if m.Load(0) != 10 || m.Load(1) != 20 || m.Load(2) != 30 {
		t.Fatal(m.All())
	}
	m.Store(0, 11)
	holds(t, m, 11, 20, 30)
	if old := m.Add(1, 5); old != 20 {
		t.Fatal(old)
	}
	holds(t, m, 11, 25, 30)
	if old := m.Swap(2, 31); old != 30 {
		t.Fatal(old)
	}
	holds(t, m, 11, 25, 31)
	if old := m.Add(2, 0); old != 31 {
		t.Fatal(old)
	}
	holds(t, m, 11, 25, 31)
}

// P1.2: Cas, where the word is as expected and where it isn't.
func TestCas(t *testing.T) {
	for _, x := range []struct {
		was, x, y uint32
		left      uint32
		ok        bool
	}{
		{was: 4, x: 4, y: 9, left: 9, ok: true},
		{was: 4, x: 4, y: 4, left: 4, ok: true},
		{was: 4, x: 5, y: 9, left: 4},
		{was: 4, x: 9, y: 4, left: 4},
		{was: 4, x: 0, y: 9, left: 4},
		{was: 0, x: 0, y: 0, left: 0, ok: true},
		{was: 0, x: 0, y: top, left: top, ok: true},
		{was: top, x: top, y: 0, left: 0, ok: true},
		{was: top, x: 0, y: 1, left: top},
		{was: 1 << 31, x: 0, y: 1, left: 1 << 31},
	} {
		m := from(t, 1, x.was, 3)
		if old, ok := m.Cas(1, x.x, x.y); old != x.was || ok != x.ok {
			t.Errorf("%+v: %d, %v", x, old, ok)
		}
		holds(t, m, 1, x.left, 3)
	}
}

// P1.2: sums go round the word.
func TestAddRound(t *testing.T) {
	for _, x := range []struct{ was, x, left uint32 }{
		{top, 2, 1}, {top, 1, 0}, {1, top, 0}, {0, top, top},
		{top, top, top - 1}, {1 << 31, 1 << 31, 0}, {1<<31 - 1, 1, 1 << 31},
	} {
		m := from(t, x.was)
		if old := m.Add(0, x.x); old != x.was || m.Load(0) != x.left {
			t.Errorf("%+v: %d, and then %d", x, old, m.Load(0))
		}
	}
}

// P1.2: of a cell that isn't there nothing is done.
func TestNoCell(t *testing.T) {
	m := from(t, 1, 2, 3)
	empty := from(t)
	for _, c := range notThere() {
		noCell(t, m, c)
		noCell(t, empty, c)
		holds(t, m, 1, 2, 3)
		holds(t, empty)
	}
	noCell(t, empty, 0)
}

// noCell fails the test, if a call on the cell c tells anything.
func noCell(t *testing.T, m *cells.Memory, c int) {
	t.Helper()
	m.Store(c, 5)
	if x := m.Load(c); x != 0 {
		t.Errorf("Load(%d): %d", c, x)
	}
	if x := m.Add(c, 1); x != 0 {
		t.Errorf("Add(%d): %d", c, x)
	}
	if x := m.Swap(c, 1); x != 0 {
		t.Errorf("Swap(%d): %d", c, x)
	}
	for _, x := range []uint32{0, 1, 5} {
		if old, ok := m.Cas(c, x, 7); old != 0 || ok {
			t.Errorf("Cas(%d, %d): %d, %v", c, x, old, ok)
		}
	}
	for kind := api.ANone; kind <= api.ACas+1; kind++ {
		a, ok := m.Do(api.Access{Kind: kind, Cell: c, X: 1, Y: 2, Old: 3})
		if a != (api.Access{}) || ok {
			t.Errorf("Do of the kind %d on %d: %+v, %v", kind, c, a, ok)
		}
	}
}

// P1.3: Do of each kind, with what it answers and leaves.
func TestDo(t *testing.T) {
	for _, x := range []struct {
		kind int
		x, y uint32
		was  uint32
		left uint32
	}{
		{kind: api.ALoad, was: 6, left: 6},
		{kind: api.ALoad, x: 6, y: 8, was: 6, left: 6},
		{kind: api.AStore, x: 4, was: 6, left: 4},
		{kind: api.AStore, x: 0, y: 8, was: 6, left: 0},
		{kind: api.AAdd, x: 4, was: 6, left: 10},
		{kind: api.AAdd, x: 2, y: 8, was: top, left: 1},
		{kind: api.AAdd, x: top, was: 6, left: 5},
		{kind: api.ASwap, x: 4, was: 6, left: 4},
		{kind: api.ASwap, x: 6, y: 8, was: 6, left: 6},
		{kind: api.ACas, x: 6, y: 8, was: 6, left: 8},
		{kind: api.ACas, x: 5, y: 8, was: 6, left: 6},
		{kind: api.ACas, x: 0, y: 8, was: 0, left: 8},
		{kind: api.ACas, x: 8, y: 6, was: 6, left: 6},
	} {
		m := from(t, 1, x.was, 3)
		// What the access was told to have found plays no part.
		a, ok := m.Do(api.Access{Kind: x.kind, Cell: 1, X: x.x, Y: x.y, Old: x.x ^ 0x55})
		want := api.Access{Kind: x.kind, Cell: 1, X: x.x, Y: x.y, Old: x.was}
		if a != want || !ok {
			t.Errorf("%+v: %+v, %v", x, a, ok)
		}
		holds(t, m, 1, x.left, 3)
	}
}

// P1.3: a kind that is none does nothing.
func TestDoNoKind(t *testing.T) {
	m := from(t, 1, 2, 3)
	for _, kind := range noKinds() {
		for _, c := range []int{0, 2, 3, -1} {
			a, ok := m.Do(api.Access{Kind: kind, Cell: c, X: 2, Y: 9, Old: 4})
			if a != (api.Access{}) || ok {
				t.Errorf("Do of the kind %d on %d: %+v, %v", kind, c, a, ok)
			}
		}
	}
	holds(t, m, 1, 2, 3)
}

// P1.3: a memory that is nil has no cells.
func TestNil(t *testing.T) {
	var m *cells.Memory
	if m.Len() != 0 || len(m.All()) != 0 {
		t.Fatal(m.Len(), m.All())
	}
	noCell(t, m, 0)
	for _, c := range notThere() {
		noCell(t, m, c)
	}
}

// P1.1 to P1.3: each cell up to the last one is one of its own.
func TestAllCells(t *testing.T) {
	m, _ := cells.New(api.MaxCells)
	for c := range api.MaxCells {
		m.Store(c, uint32(c)+7)
	}
	for c := range api.MaxCells {
		if old, ok := m.Cas(c, uint32(c)+7, uint32(c)); old != uint32(c)+7 || !ok {
			t.Fatal(c, old, ok)
		}
	}
	holds(t, m, row(api.MaxCells, 0)...)
}

// R6: the same calls on a memory of the same words tell the same.
func TestSameAnswer(t *testing.T) {
	run := func() ([]api.Access, []uint32) {
		m := from(t, 0, top, 5)
		var l []api.Access
		for i := range 60 {
			a, _ := m.Do(api.Access{Kind: i % 7, Cell: i % 4, X: uint32(i) * 0x9e3779b9, Y: uint32(i)})
			l = append(l, a)
		}
		return l, m.All()
	}
	a, x := run()
	b, y := run()
	if !slices.Equal(a, b) || !slices.Equal(x, y) {
		t.Fatal(a, b, x, y)
	}
}
