package pf_test

import (
	"slices"
	"strings"
	"testing"

	"stileman/acc"
	"stileman/api"
	"stileman/cells"
	"stileman/line"
	"stileman/note"
	"stileman/pf"
	"stileman/place"
)

// owned is how many cells are the lock's own.
const owned = 5

// own are the words of the lock's own cells: rin, rout, win, wout, phase.
type own [owned]uint32

// ended is how an operation is behind a step: not ended, or with a result.
const (
	goes = api.RetNone
	no   = api.RetFalse
	yes  = api.RetTrue
)

// none is the cell of no wake-up.
const none = -1

// memory makes a memory of a lock for n tasks with these own words, and all other cells 0.
func memory(n int, w own) *cells.Memory {
	m, _ := cells.New(8 + 4*n)
	for c, x := range w {
		m.Store(c, x)
	}
	return m
}

// ownOf are the words of the lock's own cells.
func ownOf(m *cells.Memory) (w own) {
	for c := range w {
		w[c] = m.Load(c)
	}
	return w
}

// text is what a step of the run did: its access, and its notes.
func text(r *line.Run) string {
	return strings.Join(append([]string{acc.Text(r.Access)}, note.Rows(r.Notes...)...), ", ")
}

// rest fails the test, if a cell that isn't the lock's own has another word than in l.
func rest(t *testing.T, m *cells.Memory, l []uint32) {
	t.Helper()
	if all := m.All(); !slices.Equal(all[owned:], l[owned:]) {
		t.Fatalf("the cells behind the own ones are %x, want %x", all[owned:], l[owned:])
	}
}

// row is a step of a line: the operation and the line, the own words, A and B ahead of it; the access and the notes; the own words behind it, the line, A, B, Ret, and the cell of the wake-up that begins.
type row struct {
	op, line int
	was      own
	a, b     uint32
	step     string
	left     own
	to       int
	aThen    uint32
	bThen    uint32
	ret      int
	wake     int
}

// holds does the row's step as the second one of two tasks, and fails the test, unless all is as it tells.
func (x row) holds(t *testing.T, mode int) {
	t.Helper()
	m := memory(2, x.was)
	r := line.Run{Mem: m, Map: place.Map{N: 2}, Mode: mode, Task: 1}
	r.Frame = api.Frame{Op: x.op, Line: x.line, A: x.a, B: x.b}
	over := r.Step(pf.Lines)
	want := api.Frame{Op: x.op, Line: x.to, A: x.aThen, B: x.bThen, Ret: x.ret}
	if mode == api.Parked && x.wake != none {
		want.Wake = api.Wake{On: true, Cell: x.wake}
	}
	if text(&r) != x.step || r.Frame != want || ownOf(m) != x.left {
		t.Errorf("%+v in the mode %d: %s, %+v, %x", x, mode, text(&r), r.Frame, ownOf(m))
	}
	if over != (x.ret != goes && !want.Wake.On) {
		t.Errorf("%+v in the mode %d: over %v", x, mode, over)
	}
	rest(t, m, make([]uint32, 16))
}

// P11.1: each line of readers that doesn't wait, each way out of it: the access, the notes, the words behind it, the frame, and the wake-up.
func TestRowsOfReaders(t *testing.T) {
	for _, x := range []row{
		{api.RLock, 0, own{0x500, 6, 7, 8, 9}, 8, 9, "add 0 00000100 was 00000500, 1 reg read, 1 admit", own{0x600, 6, 7, 8, 9}, 0, 0x500, 9, yes, none},
		{api.RLock, 0, own{0x502, 6, 7, 8, 9}, 8, 9, "add 0 00000100 was 00000502, 1 reg read", own{0x602, 6, 7, 8, 9}, 1, 0x502, 9, goes, none},
		{api.RLock, 0, own{0x503, 6, 7, 8, 9}, 8, 9, "add 0 00000100 was 00000503, 1 reg read", own{0x603, 6, 7, 8, 9}, 1, 0x503, 9, goes, none},
		{api.RLock, 0, own{0x501, 6, 7, 8, 9}, 8, 9, "add 0 00000100 was 00000501, 1 reg read", own{0x601, 6, 7, 8, 9}, 1, 0x501, 9, goes, none},
		{api.RLock, 0, own{0x504, 6, 7, 8, 9}, 8, 9, "add 0 00000100 was 00000504, 1 reg read, 1 admit", own{0x604, 6, 7, 8, 9}, 0, 0x504, 9, yes, none},
		{api.RLock, 0, own{0xffffff00, 6, 7, 8, 9}, 8, 9, "add 0 00000100 was ffffff00, 1 reg read, 1 admit", own{0, 6, 7, 8, 9}, 0, 0xffffff00, 9, yes, none},
		{api.RLock, 0, own{0xffffff03, 6, 7, 8, 9}, 8, 9, "add 0 00000100 was ffffff03, 1 reg read", own{3, 6, 7, 8, 9}, 1, 0xffffff03, 9, goes, none},
		{api.RUnlock, 0, own{5, 0x600, 7, 8, 9}, 8, 9, "add 1 00000100 was 00000600, 1 release", own{5, 0x700, 7, 8, 9}, 0, 8, 9, yes, 1},
		{api.RUnlock, 0, own{2, 0xffffff00, 7, 8, 9}, 8, 9, "add 1 00000100 was ffffff00, 1 release", own{2, 0, 7, 8, 9}, 0, 8, 9, yes, 1},
		{api.TryRLock, 0, own{0x500, 6, 7, 8, 9}, 8, 9, "load 0 was 00000500", own{0x500, 6, 7, 8, 9}, 1, 0x500, 9, goes, none},
		{api.TryRLock, 0, own{0x501, 6, 7, 8, 9}, 8, 9, "load 0 was 00000501, 1 refuse", own{0x501, 6, 7, 8, 9}, 0, 0x501, 9, no, none},
		{api.TryRLock, 0, own{0x502, 6, 7, 8, 9}, 8, 9, "load 0 was 00000502, 1 refuse", own{0x502, 6, 7, 8, 9}, 0, 0x502, 9, no, none},
		{api.TryRLock, 0, own{0x503, 6, 7, 8, 9}, 8, 9, "load 0 was 00000503, 1 refuse", own{0x503, 6, 7, 8, 9}, 0, 0x503, 9, no, none},
		{api.TryRLock, 0, own{0xfffffffc, 6, 7, 8, 9}, 8, 9, "load 0 was fffffffc", own{0xfffffffc, 6, 7, 8, 9}, 1, 0xfffffffc, 9, goes, none},
		{api.TryRLock, 1, own{0x500, 6, 7, 8, 9}, 0x500, 9, "cas 0 00000500 00000600 was 00000500, 1 reg read, 1 admit", own{0x600, 6, 7, 8, 9}, 1, 0x500, 9, yes, none},
		{api.TryRLock, 1, own{0xffffff00, 6, 7, 8, 9}, 0xffffff00, 9, "cas 0 ffffff00 00000000 was ffffff00, 1 reg read, 1 admit", own{0, 6, 7, 8, 9}, 1, 0xffffff00, 9, yes, none},
		{api.TryRLock, 1, own{0x500, 6, 7, 8, 9}, 0x400, 9, "cas 0 00000400 00000500 was 00000500", own{0x500, 6, 7, 8, 9}, 0, 0x400, 9, goes, none},
		{api.TryRLock, 1, own{0x502, 6, 7, 8, 9}, 0x500, 9, "cas 0 00000500 00000600 was 00000502", own{0x502, 6, 7, 8, 9}, 0, 0x500, 9, goes, none},
	} {
		for _, mode := range modes() {
			x.holds(t, mode)
		}
	}
}

// P11.1: likewise of the lines of Lock, Unlock and Downgrade.
func TestRowsOfWriters(t *testing.T) {
	w := own{0x500, 0x600, 7, 8, 9}
	for _, x := range []row{
		{api.Lock, 0, w, 8, 9, "add 2 00000001 was 00000007, 1 reg write", own{0x500, 0x600, 8, 8, 9}, 1, 7, 9, goes, none},
		{api.Lock, 0, own{5, 6, top, 8, 9}, 8, 9, "add 2 00000001 was ffffffff, 1 reg write", own{5, 6, 0, 8, 9}, 1, top, 9, goes, none},
		{api.Lock, 0, own{5, 6, half - 1, 8, 9}, 8, 9, "add 2 00000001 was 7fffffff, 1 reg write", own{5, 6, half, 8, 9}, 1, half - 1, 9, goes, none},
		{api.Lock, 2, w, 3, 4, "load 4 was 00000009", w, 3, 3, 9, goes, none},
		{api.Lock, 3, w, 3, 4, "add 0 00000002 was 00000500, 1 present", own{0x502, 0x600, 7, 8, 9}, 4, 0x500, 4, goes, none},
		{api.Lock, 3, w, 3, 5, "add 0 00000003 was 00000500, 1 present", own{0x503, 0x600, 7, 8, 9}, 4, 0x500, 5, goes, none},
		{api.Lock, 3, w, 3, top, "add 0 00000003 was 00000500, 1 present", own{0x503, 0x600, 7, 8, 9}, 4, 0x500, top, goes, none},
		{api.Lock, 3, w, 3, half, "add 0 00000002 was 00000500, 1 present", own{0x502, 0x600, 7, 8, 9}, 4, 0x500, half, goes, none},
		{api.Lock, 3, own{0xffffff00, 1, 2, 3, 4}, 3, 7, "add 0 00000003 was ffffff00, 1 present", own{0xffffff03, 1, 2, 3, 4}, 4, 0xffffff00, 7, goes, none},
		{api.Unlock, 0, w, 3, 4, "load 4 was 00000009", w, 1, 3, 9, goes, none},
		{api.Unlock, 1, own{0x502, 6, 7, 8, 9}, 3, 4, "add 0 fffffffe was 00000502, 1 leave", own{0x500, 6, 7, 8, 9}, 2, 3, 4, goes, 0},
		{api.Unlock, 1, own{0x503, 6, 7, 8, 9}, 3, 5, "add 0 fffffffd was 00000503, 1 leave", own{0x500, 6, 7, 8, 9}, 2, 3, 5, goes, 0},
		{api.Unlock, 1, own{2, 6, 7, 8, 9}, 3, 0, "add 0 fffffffe was 00000002, 1 leave", own{0, 6, 7, 8, 9}, 2, 3, 0, goes, 0},
		{api.Unlock, 1, own{0, 6, 7, 8, 9}, 3, top, "add 0 fffffffd was 00000000, 1 leave", own{0xfffffffd, 6, 7, 8, 9}, 2, 3, top, goes, 0},
		{api.Unlock, 2, w, 3, 4, "store 4 00000005 was 00000009", own{0x500, 0x600, 7, 8, 5}, 3, 3, 4, goes, none},
		{api.Unlock, 2, w, 3, top, "store 4 00000000 was 00000009", own{0x500, 0x600, 7, 8, 0}, 3, 3, top, goes, none},
		{api.Unlock, 2, w, 3, half - 1, "store 4 80000000 was 00000009", own{0x500, 0x600, 7, 8, half}, 3, 3, half - 1, goes, none},
		{api.Unlock, 3, w, 3, 4, "add 3 00000001 was 00000008, 1 pass", own{0x500, 0x600, 7, 9, 9}, 3, 3, 4, yes, 3},
		{api.Unlock, 3, own{1, 2, 3, top, 5}, 3, 4, "add 3 00000001 was ffffffff, 1 pass", own{1, 2, 3, 0, 5}, 3, 3, 4, yes, 3},
		{api.Downgrade, 0, w, 3, 4, "load 4 was 00000009", w, 1, 3, 9, goes, none},
		{api.Downgrade, 1, own{0x502, 6, 7, 8, 9}, 3, 4, "add 0 000000fe was 00000502, 1 down", own{0x600, 6, 7, 8, 9}, 2, 3, 4, goes, 0},
		{api.Downgrade, 1, own{0x503, 6, 7, 8, 9}, 3, 5, "add 0 000000fd was 00000503, 1 down", own{0x600, 6, 7, 8, 9}, 2, 3, 5, goes, 0},
		{api.Downgrade, 1, own{0xffffff02, 6, 7, 8, 9}, 3, half, "add 0 000000fe was ffffff02, 1 down", own{0, 6, 7, 8, 9}, 2, 3, half, goes, 0},
		{api.Downgrade, 2, w, 3, 4, "store 4 00000005 was 00000009", own{0x500, 0x600, 7, 8, 5}, 3, 3, 4, goes, none},
		{api.Downgrade, 2, w, 3, top, "store 4 00000000 was 00000009", own{0x500, 0x600, 7, 8, 0}, 3, 3, top, goes, none},
		{api.Downgrade, 3, w, 3, 4, "add 3 00000001 was 00000008, 1 pass", own{0x500, 0x600, 7, 9, 9}, 3, 3, 4, yes, 3},
		{api.Downgrade, 3, own{1, 2, 3, top, 5}, 3, 4, "add 3 00000001 was ffffffff, 1 pass", own{1, 2, 3, 0, 5}, 3, 3, 4, yes, 3},
	} {
		for _, mode := range modes() {
			x.holds(t, mode)
		}
	}
}

// P11.1: likewise of the lines that TryLock and TryUpgrade do alike.
func TestRowsOfBothTries(t *testing.T) {
	w := own{0x500, 0x600, 7, 8, 9}
	for _, x := range []row{
		{0, 0, w, 3, 4, "load 2 was 00000007", w, 1, 7, 4, goes, none},
		{0, 1, w, 8, 4, "load 3 was 00000008", w, 2, 8, 8, goes, none},
		{0, 1, w, 9, 4, "load 3 was 00000008, 1 refuse", w, 1, 9, 8, no, none},
		{0, 1, w, 10, 4, "load 3 was 00000008, 1 refuse", w, 1, 10, 8, no, none},
		{0, 1, w, 300, 4, "load 3 was 00000008, 1 refuse", w, 1, 300, 8, no, none},
		{0, 1, w, 7, 4, "load 3 was 00000008", w, 0, 7, 8, goes, none},
		{0, 1, own{1, 2, 3, top, 5}, 0, 4, "load 3 was ffffffff, 1 refuse", own{1, 2, 3, top, 5}, 1, 0, top, no, none},
		{0, 1, own{1, 2, 3, 0, 5}, top, 4, "load 3 was 00000000", own{1, 2, 3, 0, 5}, 0, top, 0, goes, none},
		{0, 1, own{1, 2, 3, top, 5}, top, 4, "load 3 was ffffffff", own{1, 2, 3, top, 5}, 2, top, top, goes, none},
		{0, 1, own{1, 2, 3, 1, 5}, half, 4, "load 3 was 00000001, 1 refuse", own{1, 2, 3, 1, 5}, 1, half, 1, no, none},
		{0, 1, own{1, 2, 3, 0, 5}, half, 4, "load 3 was 00000000", own{1, 2, 3, 0, 5}, 0, half, 0, goes, none},
		{0, 2, w, 7, 4, "cas 2 00000007 00000008 was 00000007, 1 reg write", own{0x500, 0x600, 8, 8, 9}, 3, 7, 4, goes, none},
		{0, 2, own{1, 2, top, 4, 5}, top, 4, "cas 2 ffffffff 00000000 was ffffffff, 1 reg write", own{1, 2, 0, 4, 5}, 3, top, 4, goes, none},
		{0, 2, w, 6, 4, "cas 2 00000006 00000007 was 00000007", w, 0, 6, 4, goes, none},
		{0, 2, w, 8, 4, "cas 2 00000008 00000009 was 00000007", w, 0, 8, 4, goes, none},
		{0, 3, w, 3, 4, "load 0 was 00000500", w, 4, 0x500, 4, goes, none},
		{0, 4, w, 0x600, 4, "load 1 was 00000600", w, 5, 0x600, 0x600, goes, none},
		{0, 4, w, 0x500, 4, "load 1 was 00000600", w, 5, 0x500, 0x600, goes, none},
		{0, 4, w, 0x701, 4, "load 1 was 00000600, 1 refuse", w, 9, 0x701, 0x600, goes, none},
		{0, 4, w, 0x800, 4, "load 1 was 00000600, 1 refuse", w, 9, 0x800, 0x600, goes, none},
		{0, 4, own{1, 0xffffff00, 3, 4, 5}, 0x100, 4, "load 1 was ffffff00, 1 refuse", own{1, 0xffffff00, 3, 4, 5}, 9, 0x100, 0xffffff00, goes, none},
		{0, 4, own{1, 0, 3, 4, 5}, half, 4, "load 1 was 00000000", own{1, 0, 3, 4, 5}, 5, half, 0, goes, none},
		{0, 4, own{1, 1, 3, 4, 5}, half, 4, "load 1 was 00000001, 1 refuse", own{1, 1, 3, 4, 5}, 9, half, 1, goes, none},
		{0, 5, w, 3, 4, "load 4 was 00000009", w, 6, 3, 9, goes, none},
		{0, 6, w, 3, 4, "add 0 00000002 was 00000500, 1 present", own{0x502, 0x600, 7, 8, 9}, 7, 0x500, 4, goes, none},
		{0, 6, w, 3, 5, "add 0 00000003 was 00000500, 1 present", own{0x503, 0x600, 7, 8, 9}, 7, 0x500, 5, goes, none},
		{0, 6, own{0xffffff00, 1, 2, 3, 4}, 3, top, "add 0 00000003 was ffffff00, 1 present", own{0xffffff03, 1, 2, 3, 4}, 7, 0xffffff00, top, goes, none},
		{0, 9, w, 3, 4, "add 3 00000001 was 00000008, 1 pass", own{0x500, 0x600, 7, 9, 9}, 9, 3, 4, no, 3},
		{0, 9, own{1, 2, 3, top, 5}, 3, 4, "add 3 00000001 was ffffffff, 1 pass", own{1, 2, 3, 0, 5}, 9, 3, 4, no, 3},
	} {
		for _, op := range []int{api.TryLock, api.TryUpgrade} {
			for _, mode := range modes() {
				x.op = op
				x.holds(t, mode)
			}
		}
	}
}

// P11.1: the lines that TryLock and TryUpgrade do each in a way of its own: one that wants up reads itself.
func TestRowsOfEachTry(t *testing.T) {
	w := own{0x500, 0x600, 7, 8, 9}
	round := own{1, 0xffffff00, 3, 4, 5}
	for _, x := range []row{
		{api.TryLock, 4, w, 0x601, 4, "load 1 was 00000600, 1 refuse", w, 9, 0x601, 0x600, goes, none},
		{api.TryLock, 4, w, 0x700, 4, "load 1 was 00000600, 1 refuse", w, 9, 0x700, 0x600, goes, none},
		{api.TryLock, 4, round, 0, 4, "load 1 was ffffff00, 1 refuse", round, 9, 0, 0xffffff00, goes, none},
		{api.TryUpgrade, 4, w, 0x601, 4, "load 1 was 00000600", w, 5, 0x601, 0x600, goes, none},
		{api.TryUpgrade, 4, w, 0x6ff, 4, "load 1 was 00000600", w, 5, 0x6ff, 0x600, goes, none},
		{api.TryUpgrade, 4, w, 0x700, 4, "load 1 was 00000600", w, 5, 0x700, 0x600, goes, none},
		{api.TryUpgrade, 4, round, 0, 4, "load 1 was ffffff00", round, 5, 0, 0xffffff00, goes, none},
		{api.TryUpgrade, 4, round, 1, 4, "load 1 was ffffff00, 1 refuse", round, 9, 1, 0xffffff00, goes, none},
		{api.TryUpgrade, 8, w, 3, 4, "add 1 00000100 was 00000600", own{0x500, 0x700, 7, 8, 9}, 8, 3, 4, yes, none},
		{api.TryUpgrade, 8, round, 3, 4, "add 1 00000100 was ffffff00", own{1, 0, 3, 4, 5}, 8, 3, 4, yes, none},
	} {
		for _, mode := range modes() {
			x.holds(t, mode)
		}
	}
}
