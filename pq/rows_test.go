package pq_test

import (
	"slices"
	"strings"
	"testing"

	"stileman/acc"
	"stileman/api"
	"stileman/cells"
	"stileman/line"
	"stileman/note"
	"stileman/place"
	"stileman/pq"
)

// How an operation is behind a step: not ended, or with a result.
const (
	goes = api.RetNone
	no   = api.RetFalse
	yes  = api.RetTrue
)

// none is the cell of no wake-up, and the line that follows on an end.
const none = -2

// set are words of cells, by their numbers.
type set map[int]uint32

// memory makes a memory of a lock for n tasks with those words, and all other cells 0.
func memory(n int, was set) *cells.Memory {
	m, _ := cells.New(8 + 4*n)
	for c, x := range was {
		m.Store(c, x)
	}
	return m
}

// text is what a step of the run did: its access, and its notes.
func text(r *line.Run) string {
	return strings.Join(append([]string{acc.Text(r.Access)}, note.Rows(r.Notes...)...), ", ")
}

// row is a step of the task 1 of three: the line, A and B, and the words of some cells ahead of it; the access and the notes; the line, A, B and the result behind it, the cells that have another word then, and the cell of the wake-up that begins. The cell rin is 0, rout 1, tail 2 and phase 3; next are 8 to 10, blocked 11 to 13, watch 14 to 16, permit 17 to 19.
type row struct {
	line         int
	a, b         uint32
	was          set
	step         string
	to           int
	aThen, bThen uint32
	ret          int
	left         set
	wake         int
}

// holds does the row's step, of the operation, and fails the test, unless all is as it tells.
func (x row) holds(t *testing.T, op int) {
	t.Helper()
	for _, mode := range modes() {
		m := memory(3, x.was)
		want := m.All()
		for c, v := range x.left {
			want[c] = v
		}
		r := line.Run{Mem: m, Map: place.Map{N: 3}, Mode: mode, Task: 1}
		r.Frame = api.Frame{Op: op, Line: x.line, A: x.a, B: x.b}
		over := r.Step(pq.Lines)
		then := api.Frame{Op: op, Line: x.to, A: x.aThen, B: x.bThen, Ret: x.ret}
		if mode == api.Parked && x.wake != none {
			then.Wake = api.Wake{On: true, Cell: x.wake}
		}
		if text(&r) != x.step || r.Frame != then {
			t.Errorf("the operation %d, %+v in the mode %d: %s, %+v", op, x, mode, text(&r), r.Frame)
		}
		if over != (x.ret != goes && !then.Wake.On) {
			t.Errorf("the operation %d, %+v in the mode %d: over %v", op, x, mode, over)
		}
		if all := m.All(); !slices.Equal(all, want) {
			t.Errorf("the operation %d, %+v in the mode %d: the cells are %x, want %x", op, x, mode, all, want)
		}
	}
}

// allHold does the rows' steps, of each of the operations.
func allHold(t *testing.T, l []row, ops ...int) {
	t.Helper()
	for _, op := range ops {
		for _, x := range l {
			x.holds(t, op)
		}
	}
}

// P14.1, by chapter 11: each line of a reader that doesn't wait, each way out of it: the access, the notes, the words behind it, the frame, and the wake-up.
func TestRowsOfReaders(t *testing.T) {
	allHold(t, []row{
		{0, 8, 9, set{0: 0x500, 1: 6}, "add 0 00000100 was 00000500, 1 reg read, 1 admit", 0, 0x500, 9, yes, set{0: 0x600}, none},
		{0, 8, 9, set{0: 0x502, 1: 6}, "add 0 00000100 was 00000502, 1 reg read", 1, 0x502, 9, goes, set{0: 0x602}, none},
		{0, 8, 9, set{0: 0x503, 2: 1}, "add 0 00000100 was 00000503, 1 reg read", 1, 0x503, 9, goes, set{0: 0x603}, none},
		{0, 8, 9, set{0: 0x501, 3: 2}, "add 0 00000100 was 00000501, 1 reg read", 1, 0x501, 9, goes, set{0: 0x601}, none},
		{0, 8, 9, set{0: 0x504, 2: 3}, "add 0 00000100 was 00000504, 1 reg read, 1 admit", 0, 0x504, 9, yes, set{0: 0x604}, none},
		{0, 8, 9, set{0: 0xffffff00}, "add 0 00000100 was ffffff00, 1 reg read, 1 admit", 0, 0xffffff00, 9, yes, set{0: 0}, none},
		{0, 8, 9, set{0: 0xffffff03}, "add 0 00000100 was ffffff03, 1 reg read", 1, 0xffffff03, 9, goes, set{0: 3}, none},
	}, api.RLock)
	allHold(t, []row{
		{0, 8, 9, set{0: 5, 1: 0x600}, "add 1 00000100 was 00000600, 1 release", 0, 8, 9, yes, set{1: 0x700}, 1},
		{0, 8, 9, set{0: 2, 1: 0xffffff00}, "add 1 00000100 was ffffff00, 1 release", 0, 8, 9, yes, set{1: 0}, 1},
		{0, 8, 9, nil, "add 1 00000100 was 00000000, 1 release", 0, 8, 9, yes, set{1: 0x100}, 1},
	}, api.RUnlock)
	allHold(t, []row{
		{0, 8, 9, set{0: 0x500, 2: 2}, "load 0 was 00000500", 1, 0x500, 9, goes, nil, none},
		{0, 8, 9, set{0: 0x501}, "load 0 was 00000501, 1 refuse", 0, 0x501, 9, no, nil, none},
		{0, 8, 9, set{0: 0x502}, "load 0 was 00000502, 1 refuse", 0, 0x502, 9, no, nil, none},
		{0, 8, 9, set{0: 0x503}, "load 0 was 00000503, 1 refuse", 0, 0x503, 9, no, nil, none},
		{0, 8, 9, set{0: 0xfffffffc}, "load 0 was fffffffc", 1, 0xfffffffc, 9, goes, nil, none},
		{1, 0x500, 9, set{0: 0x500}, "cas 0 00000500 00000600 was 00000500, 1 reg read, 1 admit", 1, 0x500, 9, yes, set{0: 0x600}, none},
		{1, 0xffffff00, 9, set{0: 0xffffff00}, "cas 0 ffffff00 00000000 was ffffff00, 1 reg read, 1 admit", 1, 0xffffff00, 9, yes, set{0: 0}, none},
		{1, 0x400, 9, set{0: 0x500}, "cas 0 00000400 00000500 was 00000500", 0, 0x400, 9, goes, nil, none},
		{1, 0x500, 9, set{0: 0x502}, "cas 0 00000500 00000600 was 00000502", 0, 0x500, 9, goes, nil, none},
	}, api.TryRLock)
}

// P14.1: likewise of the lines by which a writer enters the queue.
func TestRowsOfEntering(t *testing.T) {
	allHold(t, []row{
		{0, 5, 6, set{9: 3}, "store 9 00000000 was 00000003", 1, 5, 6, goes, set{9: 0}, none},
		{0, 0, 6, nil, "store 9 00000000 was 00000000", 1, 0, 6, goes, nil, none},
		{1, 5, 6, nil, "store 12 00000001 was 00000000", 2, 5, 6, goes, set{12: 1}, none},
		{1, 5, 6, set{12: top}, "store 12 00000001 was ffffffff", 2, 5, 6, goes, set{12: 1}, none},
		{2, 5, 6, nil, "swap 2 00000002 was 00000000, 1 reg write", 5, 0, 6, goes, set{2: 2}, none},
		{2, 5, 6, set{0: 0x302, 1: 7, 3: 5}, "swap 2 00000002 was 00000000, 1 reg write", 5, 0, 6, goes, set{2: 2}, none},
		{2, 0, 6, set{2: 1}, "swap 2 00000002 was 00000001, 1 reg write", 3, 1, 6, goes, set{2: 2}, none},
		{2, 5, 6, set{2: 3}, "swap 2 00000002 was 00000003, 1 reg write", 3, 3, 6, goes, set{2: 2}, none},
		{2, 5, 6, set{2: 2}, "swap 2 00000002 was 00000002, 1 reg write", 3, 2, 6, goes, nil, none},
		{2, 5, 6, set{2: top}, "swap 2 00000002 was ffffffff, 1 reg write", 3, top, 6, goes, set{2: 2}, none},
		{3, 1, 6, set{2: 2}, "store 8 00000002 was 00000000", 4, 1, 6, goes, set{8: 2}, 8},
		{3, 3, 6, set{10: 1, 8: 6}, "store 10 00000002 was 00000001", 4, 3, 6, goes, set{10: 2}, 10},
		{3, 2, 6, nil, "store 9 00000002 was 00000000", 4, 2, 6, goes, set{9: 2}, 9},
	}, api.Lock)
}

// giver is an operation that gives the queue on: from which line on, and with which result.
type giver struct{ op, from, ret int }

// givers are all of them.
func givers() []giver {
	return []giver{{api.Unlock, 3, yes}, {api.Downgrade, 3, yes}, {api.TryLock, 8, no}, {api.TryUpgrade, 8, no}}
}

// P14.1: likewise of giving the queue on, of each operation that does so.
func TestRowsOfGiving(t *testing.T) {
	for _, g := range givers() {
		a := g.from
		allHold(t, []row{
			{a, 5, 6, nil, "load 9 was 00000000", a + 1, 0, 6, goes, nil, none},
			{a, 5, 6, set{0: 2, 2: 2}, "load 9 was 00000000", a + 1, 0, 6, goes, nil, none},
			{a, 0, 6, set{9: 3}, "load 9 was 00000003", a + 3, 3, 6, goes, nil, none},
			{a, 5, 6, set{9: 1}, "load 9 was 00000001", a + 3, 1, 6, goes, nil, none},
			{a, 5, 6, set{9: top}, "load 9 was ffffffff", a + 3, top, 6, goes, nil, none},
			{a + 1, 5, 6, set{2: 2}, "cas 2 00000002 00000000 was 00000002, 1 pass", a + 1, 5, 6, g.ret, set{2: 0}, none},
			{a + 1, 0, 6, set{2: 3}, "cas 2 00000002 00000000 was 00000003", a + 2, 0, 6, goes, nil, none},
			{a + 1, 5, 6, set{2: 1}, "cas 2 00000002 00000000 was 00000001", a + 2, 5, 6, goes, nil, none},
			{a + 1, 2, 6, nil, "cas 2 00000002 00000000 was 00000000", a + 2, 2, 6, goes, nil, none},
			{a + 1, 5, 6, set{2: top}, "cas 2 00000002 00000000 was ffffffff", a + 2, 5, 6, goes, nil, none},
			{a + 3, 3, 6, set{13: 1}, "store 13 00000000 was 00000001, 1 pass", a + 3, 3, 6, g.ret, set{13: 0}, 13},
			{a + 3, 1, 6, set{11: 1, 12: 1, 2: 1}, "store 11 00000000 was 00000001, 1 pass", a + 3, 1, 6, g.ret, set{11: 0}, 11},
			{a + 3, 2, 6, nil, "store 12 00000000 was 00000000, 1 pass", a + 3, 2, 6, g.ret, nil, 12},
		}, g.op)
	}
}

// P14.1: likewise of a writer's presence, in both phases, at each operation's line of it.
func TestRowsOfPresence(t *testing.T) {
	for op, n := range map[int]int{api.Lock: 5, api.TryLock: 4, api.TryUpgrade: 4} {
		allHold(t, []row{
			{n, 3, 4, set{0: 1, 1: 2, 2: 2, 3: 9}, "load 3 was 00000009", n + 1, 3, 9, goes, nil, none},
			{n, 3, 4, nil, "load 3 was 00000000", n + 1, 3, 0, goes, nil, none},
			{n, 3, 4, set{3: top}, "load 3 was ffffffff", n + 1, 3, top, goes, nil, none},
			{n + 1, 3, 4, set{0: 0x500, 1: 0x600, 3: 9}, "add 0 00000002 was 00000500, 1 present", n + 2, 0x500, 4, goes, set{0: 0x502}, none},
			{n + 1, 3, 5, set{0: 0x500, 1: 0x600, 3: 8}, "add 0 00000003 was 00000500, 1 present", n + 2, 0x500, 5, goes, set{0: 0x503}, none},
			{n + 1, 3, 0, nil, "add 0 00000002 was 00000000, 1 present", n + 2, 0, 0, goes, set{0: 2}, none},
			{n + 1, 3, top, set{0: 0x500}, "add 0 00000003 was 00000500, 1 present", n + 2, 0x500, top, goes, set{0: 0x503}, none},
			{n + 1, 3, half, set{0: 0x500}, "add 0 00000002 was 00000500, 1 present", n + 2, 0x500, half, goes, set{0: 0x502}, none},
			{n + 1, 3, 7, set{0: 0xffffff00}, "add 0 00000003 was ffffff00, 1 present", n + 2, 0xffffff00, 7, goes, set{0: 0xffffff03}, none},
			{n + 1, 3, 6, set{0: top}, "add 0 00000002 was ffffffff, 1 present", n + 2, top, 6, goes, set{0: 1}, none},
		}, op)
	}
}

// P14.1: likewise of the lines of Unlock and Downgrade ahead of giving the queue on.
func TestRowsOfLeaving(t *testing.T) {
	allHold(t, []row{
		{0, 3, 4, set{0: 2, 1: 5, 2: 2, 3: 9}, "load 3 was 00000009", 1, 3, 9, goes, nil, none},
		{0, 3, 4, nil, "load 3 was 00000000", 1, 3, 0, goes, nil, none},
		{0, 3, 4, set{3: top}, "load 3 was ffffffff", 1, 3, top, goes, nil, none},
		{2, 3, 4, set{0: 1, 1: 2, 2: 2, 3: 9}, "store 3 00000005 was 00000009", 3, 3, 4, goes, set{3: 5}, none},
		{2, 3, top, set{3: 9}, "store 3 00000000 was 00000009", 3, 3, top, goes, set{3: 0}, none},
		{2, 3, half - 1, nil, "store 3 80000000 was 00000000", 3, 3, half - 1, goes, set{3: half}, none},
		{2, 3, 0, set{3: top}, "store 3 00000001 was ffffffff", 3, 3, 0, goes, set{3: 1}, none},
	}, api.Unlock, api.Downgrade)
	allHold(t, []row{
		{1, 3, 4, set{0: 0x502, 1: 6}, "add 0 fffffffe was 00000502, 1 leave", 2, 3, 4, goes, set{0: 0x500}, 0},
		{1, 3, 5, set{0: 0x503, 1: 6}, "add 0 fffffffd was 00000503, 1 leave", 2, 3, 5, goes, set{0: 0x500}, 0},
		{1, 3, 0, set{0: 2}, "add 0 fffffffe was 00000002, 1 leave", 2, 3, 0, goes, set{0: 0}, 0},
		{1, 3, top, nil, "add 0 fffffffd was 00000000, 1 leave", 2, 3, top, goes, set{0: 0xfffffffd}, 0},
		{1, 3, half, set{0: 0xffffff02}, "add 0 fffffffe was ffffff02, 1 leave", 2, 3, half, goes, set{0: 0xffffff00}, 0},
	}, api.Unlock)
	allHold(t, []row{
		{1, 3, 4, set{0: 0x502, 1: 6}, "add 0 000000fe was 00000502, 1 down", 2, 3, 4, goes, set{0: 0x600}, 0},
		{1, 3, 5, set{0: 0x503, 1: 6}, "add 0 000000fd was 00000503, 1 down", 2, 3, 5, goes, set{0: 0x600}, 0},
		{1, 3, half, set{0: 0xffffff02}, "add 0 000000fe was ffffff02, 1 down", 2, 3, half, goes, set{0: 0}, 0},
		{1, 3, top, set{0: 0xffffff03}, "add 0 000000fd was ffffff03, 1 down", 2, 3, top, goes, set{0: 0}, 0},
		{1, 3, 0, nil, "add 0 000000fe was 00000000, 1 down", 2, 3, 0, goes, set{0: 0xfe}, 0},
	}, api.Downgrade)
}

// P14.1: likewise of the lines that TryLock and TryUpgrade do alike.
func TestRowsOfBothTries(t *testing.T) {
	allHold(t, []row{
		{0, 5, 6, set{9: 3}, "store 9 00000000 was 00000003", 1, 5, 6, goes, set{9: 0}, none},
		{0, 0, 6, set{2: 3, 1: 1}, "store 9 00000000 was 00000000", 1, 0, 6, goes, nil, none},
		{1, 5, 6, nil, "cas 2 00000000 00000002 was 00000000, 1 reg write", 2, 5, 6, goes, set{2: 2}, none},
		{1, 0, 6, set{0: 3, 9: 7, 12: 1}, "cas 2 00000000 00000002 was 00000000, 1 reg write", 2, 0, 6, goes, set{2: 2}, none},
		{1, 5, 6, set{2: 1}, "cas 2 00000000 00000002 was 00000001, 1 refuse", 1, 5, 6, no, nil, none},
		{1, 0, 6, set{2: 2}, "cas 2 00000000 00000002 was 00000002, 1 refuse", 1, 0, 6, no, nil, none},
		{1, 5, 6, set{2: 3}, "cas 2 00000000 00000002 was 00000003, 1 refuse", 1, 5, 6, no, nil, none},
		{1, 5, 6, set{2: top, 1: 1}, "cas 2 00000000 00000002 was ffffffff, 1 refuse", 1, 5, 6, no, nil, none},
		{2, 3, 4, set{0: 0x500, 1: 0x600}, "load 0 was 00000500", 3, 0x500, 4, goes, nil, none},
		{2, 3, 4, nil, "load 0 was 00000000", 3, 0, 4, goes, nil, none},
		{2, 3, 4, set{0: top}, "load 0 was ffffffff", 3, top, 4, goes, nil, none},
		{3, 0x600, 4, set{1: 0x600}, "load 1 was 00000600", 4, 0x600, 0x600, goes, nil, none},
		{3, 0x500, 4, set{1: 0x600}, "load 1 was 00000600", 4, 0x500, 0x600, goes, nil, none},
		{3, 0x701, 4, set{1: 0x600}, "load 1 was 00000600, 1 refuse", 8, 0x701, 0x600, goes, nil, none},
		{3, 0x800, 4, set{1: 0x600, 0: 9}, "load 1 was 00000600, 1 refuse", 8, 0x800, 0x600, goes, nil, none},
		{3, 0x100, 4, set{1: 0xffffff00}, "load 1 was ffffff00, 1 refuse", 8, 0x100, 0xffffff00, goes, nil, none},
		{3, 0xffffff00, 4, set{1: 0x100}, "load 1 was 00000100", 4, 0xffffff00, 0x100, goes, nil, none},
		{3, half, 4, nil, "load 1 was 00000000", 4, half, 0, goes, nil, none},
		{3, half, 4, set{1: 1}, "load 1 was 00000001, 1 refuse", 8, half, 1, goes, nil, none},
		{3, 0, 4, set{1: half}, "load 1 was 80000000", 4, 0, half, goes, nil, none},
	}, api.TryLock, api.TryUpgrade)
}

// P14.1: the lines that TryLock and TryUpgrade do each in a way of its own: one that wants up reads itself.
func TestRowsOfEachTry(t *testing.T) {
	allHold(t, []row{
		{3, 0x601, 4, set{1: 0x600}, "load 1 was 00000600, 1 refuse", 8, 0x601, 0x600, goes, nil, none},
		{3, 0x6ff, 4, set{1: 0x600}, "load 1 was 00000600, 1 refuse", 8, 0x6ff, 0x600, goes, nil, none},
		{3, 0x700, 4, set{1: 0x600}, "load 1 was 00000600, 1 refuse", 8, 0x700, 0x600, goes, nil, none},
		{3, 0, 4, set{1: 0xffffff00}, "load 1 was ffffff00, 1 refuse", 8, 0, 0xffffff00, goes, nil, none},
	}, api.TryLock)
	allHold(t, []row{
		{3, 0x601, 4, set{1: 0x600}, "load 1 was 00000600", 4, 0x601, 0x600, goes, nil, none},
		{3, 0x6ff, 4, set{1: 0x600}, "load 1 was 00000600", 4, 0x6ff, 0x600, goes, nil, none},
		{3, 0x700, 4, set{1: 0x600}, "load 1 was 00000600", 4, 0x700, 0x600, goes, nil, none},
		{3, 0, 4, set{1: 0xffffff00}, "load 1 was ffffff00", 4, 0, 0xffffff00, goes, nil, none},
		{3, 1, 4, set{1: 0xffffff00}, "load 1 was ffffff00, 1 refuse", 8, 1, 0xffffff00, goes, nil, none},
		{7, 3, 4, set{1: 0x600, 2: 2}, "add 1 00000100 was 00000600", 7, 3, 4, yes, set{1: 0x700}, none},
		{7, 3, 4, set{1: 0xffffff00}, "add 1 00000100 was ffffff00", 7, 3, 4, yes, set{1: 0}, none},
	}, api.TryUpgrade)
}
