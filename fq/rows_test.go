package fq_test

import (
	"slices"
	"strings"
	"testing"

	"stileman/acc"
	"stileman/api"
	"stileman/cells"
	"stileman/fq"
	"stileman/line"
	"stileman/note"
	"stileman/place"
)

// How an operation is behind a step: not ended, or with a result.
const (
	goes = api.RetNone
	no   = api.RetFalse
	yes  = api.RetTrue
)

// none is the cell of no wake-up, and the line that follows on an end.
const none = -2

// set are words of cells, by their numbers.
type set map[int]uint32

// memory makes a memory of a lock for n tasks with those words, and all other cells 0.
func memory(n int, was set) *cells.Memory {
	m, _ := cells.New(8 + 4*n)
	for c, x := range was {
		m.Store(c, x)
	}
	return m
}

// text is what a step of the run did: its access, and its notes.
func text(r *line.Run) string {
	return strings.Join(append([]string{acc.Text(r.Access)}, note.Rows(r.Notes...)...), ", ")
}

// row is a step of the task 1 of three: the line, and A and the words of some cells ahead of it; the access and the notes; A, the line and the result behind it, the cells that have another word then, and the cell of the wake-up that begins. The cell tail is 0, and count 1; next are 8 to 10, blocked 11 to 13, watch 14 to 16, permit 17 to 19.
type row struct {
	line  int
	a     uint32
	was   set
	step  string
	aThen uint32
	to    int
	ret   int
	left  set
	wake  int
}

// holds does the row's step, of the operation, and fails the test, unless all is as it tells.
func (x row) holds(t *testing.T, op int) {
	t.Helper()
	for _, mode := range modes() {
		m := memory(3, x.was)
		want := m.All()
		for c, v := range x.left {
			want[c] = v
		}
		r := line.Run{Mem: m, Map: place.Map{N: 3}, Mode: mode, Task: 1}
		r.Frame = api.Frame{Op: op, Line: x.line, A: x.a, B: 77}
		over := r.Step(fq.Lines)
		then := api.Frame{Op: op, Line: x.to, A: x.aThen, B: 77, Ret: x.ret}
		if mode == api.Parked && x.wake != none {
			then.Wake = api.Wake{On: true, Cell: x.wake}
		}
		if text(&r) != x.step || r.Frame != then {
			t.Errorf("the operation %d, %+v in the mode %d: %s, %+v", op, x, mode, text(&r), r.Frame)
		}
		if over != (x.ret != goes && !then.Wake.On) {
			t.Errorf("the operation %d, %+v in the mode %d: over %v", op, x, mode, over)
		}
		if all := m.All(); !slices.Equal(all, want) {
			t.Errorf("the operation %d, %+v in the mode %d: the cells are %x, want %x", op, x, mode, all, want)
		}
	}
}

// P13.1: each line of entering the queue that doesn't wait, each way out of it, of both classes: the access, the notes, the words behind it, the frame, and the wake-up.
func TestRowsOfEntering(t *testing.T) {
	for op, class := range map[int]string{api.RLock: "read", api.Lock: "write"} {
		for _, x := range []row{
			{0, 5, set{9: 3}, "store 9 00000000 was 00000003", 5, 1, goes, set{9: 0}, none},
			{0, 0, nil, "store 9 00000000 was 00000000", 0, 1, goes, nil, none},
			{1, 5, nil, "store 12 00000001 was 00000000", 5, 2, goes, set{12: 1}, none},
			{1, 5, set{12: top}, "store 12 00000001 was ffffffff", 5, 2, goes, set{12: 1}, none},
			{2, 5, nil, "swap 0 00000002 was 00000000, 1 reg " + class, 0, 5, goes, set{0: 2}, none},
			{2, 5, set{1: 4}, "swap 0 00000002 was 00000000, 1 reg " + class, 0, 5, goes, set{0: 2}, none},
			{2, 0, set{0: 1}, "swap 0 00000002 was 00000001, 1 reg " + class, 1, 3, goes, set{0: 2}, none},
			{2, 5, set{0: 3}, "swap 0 00000002 was 00000003, 1 reg " + class, 3, 3, goes, set{0: 2}, none},
			{2, 5, set{0: 2}, "swap 0 00000002 was 00000002, 1 reg " + class, 2, 3, goes, nil, none},
			{2, 5, set{0: top}, "swap 0 00000002 was ffffffff, 1 reg " + class, top, 3, goes, set{0: 2}, none},
			{3, 1, set{0: 2}, "store 8 00000002 was 00000000", 1, 4, goes, set{8: 2}, 8},
			{3, 3, set{10: 1, 8: 6}, "store 10 00000002 was 00000001", 3, 4, goes, set{10: 2}, 10},
			{3, 2, nil, "store 9 00000002 was 00000000", 2, 4, goes, set{9: 2}, 9},
		} {
			x.holds(t, op)
		}
	}
}

// giver is an operation that gives the queue on: from which line on, with which result, and which notes.
type giver struct {
	op, from, ret int
	notes         string
}

// givers are all of them.
func givers() []giver {
	return []giver{
		{api.RLock, 6, yes, "1 admit"},
		{api.TryRLock, 6, yes, "1 admit"},
		{api.Unlock, 0, yes, "1 leave, 1 pass"},
		{api.TryLock, 6, no, "1 pass"},
		{api.TryUpgrade, 6, no, "1 pass"},
		{api.Downgrade, 1, yes, "1 down"},
	}
}

// P13.1: likewise of giving the queue on, of each operation that does so.
func TestRowsOfGiving(t *testing.T) {
	for _, g := range givers() {
		a := g.from
		for _, x := range []row{
			{a, 5, nil, "load 9 was 00000000", 0, a + 1, goes, nil, none},
			{a, 5, set{0: 2, 1: 6}, "load 9 was 00000000", 0, a + 1, goes, nil, none},
			{a, 0, set{9: 3}, "load 9 was 00000003", 3, a + 3, goes, nil, none},
			{a, 5, set{9: 1}, "load 9 was 00000001", 1, a + 3, goes, nil, none},
			{a, 5, set{9: top}, "load 9 was ffffffff", top, a + 3, goes, nil, none},
			{a + 1, 5, set{0: 2}, "cas 0 00000002 00000000 was 00000002, " + g.notes, 5, a + 1, g.ret, set{0: 0}, none},
			{a + 1, 0, set{0: 3}, "cas 0 00000002 00000000 was 00000003", 0, a + 2, goes, nil, none},
			{a + 1, 5, set{0: 1}, "cas 0 00000002 00000000 was 00000001", 5, a + 2, goes, nil, none},
			{a + 1, 2, nil, "cas 0 00000002 00000000 was 00000000", 2, a + 2, goes, nil, none},
			{a + 1, 5, set{0: top}, "cas 0 00000002 00000000 was ffffffff", 5, a + 2, goes, nil, none},
			{a + 3, 3, set{13: 1}, "store 13 00000000 was 00000001, " + g.notes, 3, a + 3, g.ret, set{13: 0}, 13},
			{a + 3, 1, set{11: 1, 12: 1, 0: 1}, "store 11 00000000 was 00000001, " + g.notes, 1, a + 3, g.ret, set{11: 0}, 11},
			{a + 3, 2, nil, "store 12 00000000 was 00000000, " + g.notes, 2, a + 3, g.ret, nil, 12},
		} {
			x.holds(t, g.op)
		}
	}
}

// P13.1: likewise of the tries' first two lines; A is no matter, and stays.
func TestRowsOfTries(t *testing.T) {
	for _, try := range []struct {
		op    int
		class string
		in    int
	}{
		{api.TryRLock, "read", 5},
		{api.TryLock, "write", 2},
		{api.TryUpgrade, "write", 2},
	} {
		for _, x := range []row{
			{0, 5, set{9: 3}, "store 9 00000000 was 00000003", 5, 1, goes, set{9: 0}, none},
			{0, 0, set{0: 3, 1: 1}, "store 9 00000000 was 00000000", 0, 1, goes, nil, none},
			{1, 5, nil, "cas 0 00000000 00000002 was 00000000, 1 reg " + try.class, 5, try.in, goes, set{0: 2}, none},
			{1, 0, set{1: 3, 9: 7, 12: 1}, "cas 0 00000000 00000002 was 00000000, 1 reg " + try.class, 0, try.in, goes, set{0: 2}, none},
			{1, 5, set{0: 1}, "cas 0 00000000 00000002 was 00000001, 1 refuse", 5, 1, no, nil, none},
			{1, 0, set{0: 2}, "cas 0 00000000 00000002 was 00000002, 1 refuse", 0, 1, no, nil, none},
			{1, 5, set{0: 3}, "cas 0 00000000 00000002 was 00000003, 1 refuse", 5, 1, no, nil, none},
			{1, 5, set{0: top, 1: 1}, "cas 0 00000000 00000002 was ffffffff, 1 refuse", 5, 1, no, nil, none},
		} {
			x.holds(t, try.op)
		}
	}
}

// P13.1: likewise of the lines of the count, of 0, 1 and more, also where it goes round.
func TestRowsOfCount(t *testing.T) {
	for op, l := range map[int][]row{
		api.RLock: {
			{5, 4, set{0: 2}, "add 1 00000001 was 00000000", 4, 6, goes, set{1: 1}, none},
			{5, 4, set{0: 3, 1: 7}, "add 1 00000001 was 00000007", 4, 6, goes, set{1: 8}, none},
			{5, 0, set{1: top}, "add 1 00000001 was ffffffff", 0, 6, goes, set{1: 0}, none},
		},
		api.TryRLock: {
			{5, 4, set{0: 2}, "add 1 00000001 was 00000000", 4, 6, goes, set{1: 1}, none},
			{5, 4, set{0: 2, 1: half - 1}, "add 1 00000001 was 7fffffff", 4, 6, goes, set{1: half}, none},
			{5, 0, set{1: top}, "add 1 00000001 was ffffffff", 0, 6, goes, set{1: 0}, none},
		},
		api.RUnlock: {
			{0, 4, set{1: 1}, "add 1 ffffffff was 00000001, 1 release", 4, 0, yes, set{1: 0}, 1},
			{0, 4, set{0: 2, 1: 7}, "add 1 ffffffff was 00000007, 1 release", 4, 0, yes, set{1: 6}, 1},
			{0, 0, nil, "add 1 ffffffff was 00000000, 1 release", 0, 0, yes, set{1: top}, 1},
			{0, 0, set{1: top}, "add 1 ffffffff was ffffffff, 1 release", 0, 0, yes, set{1: top - 1}, 1},
		},
		api.TryLock: {
			{2, 4, set{0: 2}, "load 1 was 00000000, 1 admit", 0, 2, yes, nil, none},
			{2, 4, set{0: 2, 1: 1}, "load 1 was 00000001, 1 refuse", 1, 6, goes, nil, none},
			{2, 0, set{0: 2, 1: 2}, "load 1 was 00000002, 1 refuse", 2, 6, goes, nil, none},
			{2, 0, set{1: top}, "load 1 was ffffffff, 1 refuse", top, 6, goes, nil, none},
			{2, 0, set{1: half}, "load 1 was 80000000, 1 refuse", half, 6, goes, nil, none},
		},
		api.TryUpgrade: {
			{2, 4, set{0: 2, 1: 1}, "load 1 was 00000001", 1, 3, goes, nil, none},
			{2, 4, set{0: 2}, "load 1 was 00000000, 1 refuse", 0, 6, goes, nil, none},
			{2, 1, set{0: 2, 1: 2}, "load 1 was 00000002, 1 refuse", 2, 6, goes, nil, none},
			{2, 1, set{1: top}, "load 1 was ffffffff, 1 refuse", top, 6, goes, nil, none},
			{2, 1, set{1: half + 1}, "load 1 was 80000001, 1 refuse", half + 1, 6, goes, nil, none},
			{3, 4, set{0: 2, 1: 1}, "add 1 ffffffff was 00000001, 1 up", 4, 3, yes, set{1: 0}, none},
			{3, 0, set{0: 2, 1: 7}, "add 1 ffffffff was 00000007, 1 up", 0, 3, yes, set{1: 6}, none},
			{3, 0, nil, "add 1 ffffffff was 00000000, 1 up", 0, 3, yes, set{1: top}, none},
		},
		api.Downgrade: {
			{0, 4, set{0: 2}, "add 1 00000001 was 00000000", 4, 1, goes, set{1: 1}, none},
			{0, 0, set{0: 3, 1: 7}, "add 1 00000001 was 00000007", 0, 1, goes, set{1: 8}, none},
			{0, 0, set{1: top}, "add 1 00000001 was ffffffff", 0, 1, goes, set{1: 0}, none},
		},
	} {
		for _, x := range l {
			x.holds(t, op)
		}
	}
}
