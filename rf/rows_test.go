package rf_test

import (
	"slices"
	"strings"
	"testing"

	"stileman/acc"
	"stileman/api"
	"stileman/cells"
	"stileman/line"
	"stileman/note"
	"stileman/place"
	"stileman/rf"
)

// How an operation is behind a step: not ended, or with a result.
const (
	goes = api.RetNone
	no   = api.RetFalse
	yes  = api.RetTrue
)

// marked are so many cells, each with a word of its own, but for the lock's.
func marked(size int, word uint32) []uint32 {
	l := make([]uint32, max(size, 1))
	for c := range l {
		l[c] = 0xabc000 + uint32(c)
	}
	l[0] = word
	return l[:size]
}

// text is what a step of the run did: its access, and its notes.
func text(r *line.Run) string {
	return strings.Join(append([]string{acc.Text(r.Access)}, note.Rows(r.Notes...)...), ", ")
}

// row is a step of the task 1 of three: the line, A, and the lock's word ahead of it; the access and the notes; the line, A, the word and the result behind it, and whether a wake-up begins.
type row struct {
	line    int
	a, was  uint32
	step    string
	to      int
	aThen   uint32
	left    uint32
	ret     int
	wakesUp bool
}

// holds does the row's step, of the operation, and fails the test, unless all is as it tells; B stays, and so do all other cells.
func (x row) holds(t *testing.T, op int) {
	t.Helper()
	for _, mode := range modes() {
		m, _ := cells.From(marked(20, x.was)...)
		r := line.Run{Mem: m, Map: place.Map{N: 3}, Mode: mode, Task: 1}
		r.Frame = api.Frame{Op: op, Line: x.line, A: x.a, B: 9}
		over := r.Step(rf.Lines)
		then := api.Frame{Op: op, Line: x.to, A: x.aThen, B: 9, Ret: x.ret}
		if mode == api.Parked && x.wakesUp {
			then.Wake = api.Wake{On: true}
		}
		if text(&r) != x.step || r.Frame != then {
			t.Errorf("the operation %d, %+v in the mode %d: %s, %+v", op, x, mode, text(&r), r.Frame)
		}
		if over != (x.ret != goes && !then.Wake.On) {
			t.Errorf("the operation %d, %+v in the mode %d: over %v", op, x, mode, over)
		}
		if all := m.All(); !slices.Equal(all, marked(20, x.left)) {
			t.Errorf("the operation %d, %+v in the mode %d: the cells are %x", op, x, mode, all)
		}
	}
}

// allHold does the rows' steps, of the operation.
func allHold(t *testing.T, op int, l []row) {
	t.Helper()
	for _, x := range l {
		x.holds(t, op)
	}
}

// P15.1: the lines of a reader that don't wait, each way out of them: the access, the notes, the word behind it, the frame, and the wake-up.
func TestRowsOfReaders(t *testing.T) {
	allHold(t, api.RLock, []row{
		{0, 8, 0, "add 0 00000001 was 00000000, 1 reg read, 1 admit", 0, 0, 1, yes, false},
		{0, 0, 1, "add 0 00000001 was 00000001, 1 reg read, 1 admit", 0, 1, 2, yes, false},
		{0, w, 63, "add 0 00000001 was 0000003f, 1 reg read, 1 admit", 0, 63, 64, yes, false},
		{0, w, w - 1, "add 0 00000001 was 0000ffff, 1 reg read, 1 admit", 0, w - 1, w, yes, false},
		{0, 8, w, "add 0 00000001 was 00010000, 1 reg read", 1, w, w + 1, goes, false},
		{0, 0, w + 1, "add 0 00000001 was 00010001, 1 reg read", 1, w + 1, w + 2, goes, false},
		{0, 8, 2*w - 1, "add 0 00000001 was 0001ffff, 1 reg read", 1, 2*w - 1, 2 * w, goes, false},
		{0, 8, 2 * w, "add 0 00000001 was 00020000, 1 reg read, 1 admit", 0, 2 * w, 2*w + 1, yes, false},
		{0, 8, 3 * w, "add 0 00000001 was 00030000, 1 reg read", 1, 3 * w, 3*w + 1, goes, false},
		{0, 8, half, "add 0 00000001 was 80000000, 1 reg read, 1 admit", 0, half, half + 1, yes, false},
		{0, 8, half + w, "add 0 00000001 was 80010000, 1 reg read", 1, half + w, half + w + 1, goes, false},
		{0, 8, 0xfffeffff, "add 0 00000001 was fffeffff, 1 reg read, 1 admit", 0, 0xfffeffff, 0xffff0000, yes, false},
		{0, 8, 0xffff0000, "add 0 00000001 was ffff0000, 1 reg read", 1, 0xffff0000, 0xffff0001, goes, false},
		{0, 8, top, "add 0 00000001 was ffffffff, 1 reg read", 1, top, 0, goes, false},
	})
	allHold(t, api.RUnlock, []row{
		{0, 8, 1, "add 0 ffffffff was 00000001, 1 release", 0, 8, 0, yes, true},
		{0, 0, 2, "add 0 ffffffff was 00000002, 1 release", 0, 0, 1, yes, true},
		{0, top, 64, "add 0 ffffffff was 00000040, 1 release", 0, top, 63, yes, true},
		{0, 8, 0, "add 0 ffffffff was 00000000, 1 release", 0, 8, top, yes, true},
		{0, 8, w, "add 0 ffffffff was 00010000, 1 release", 0, 8, w - 1, yes, true},
		{0, 8, w + 1, "add 0 ffffffff was 00010001, 1 release", 0, 8, w, yes, true},
		{0, 8, half, "add 0 ffffffff was 80000000, 1 release", 0, 8, half - 1, yes, true},
		{0, 8, top, "add 0 ffffffff was ffffffff, 1 release", 0, 8, top - 1, yes, true},
	})
}

// P15.1: likewise of a reader's try.
func TestRowsOfTryRLock(t *testing.T) {
	allHold(t, api.TryRLock, []row{
		{0, 8, 0, "load 0 was 00000000", 1, 0, 0, goes, false},
		{0, 8, 1, "load 0 was 00000001", 1, 1, 1, goes, false},
		{0, w, 63, "load 0 was 0000003f", 1, 63, 63, goes, false},
		{0, 8, w - 1, "load 0 was 0000ffff", 1, w - 1, w - 1, goes, false},
		{0, 8, w, "load 0 was 00010000, 1 refuse", 0, w, w, no, false},
		{0, 0, w + 1, "load 0 was 00010001, 1 refuse", 0, w + 1, w + 1, no, false},
		{0, 8, 2*w - 1, "load 0 was 0001ffff, 1 refuse", 0, 2*w - 1, 2*w - 1, no, false},
		{0, 8, 2 * w, "load 0 was 00020000", 1, 2 * w, 2 * w, goes, false},
		{0, 8, half + w, "load 0 was 80010000, 1 refuse", 0, half + w, half + w, no, false},
		{0, 8, 0xfffeffff, "load 0 was fffeffff", 1, 0xfffeffff, 0xfffeffff, goes, false},
		{0, 8, top, "load 0 was ffffffff, 1 refuse", 0, top, top, no, false},
		{1, 0, 0, "cas 0 00000000 00000001 was 00000000, 1 reg read, 1 admit", 1, 0, 1, yes, false},
		{1, 1, 1, "cas 0 00000001 00000002 was 00000001, 1 reg read, 1 admit", 1, 1, 2, yes, false},
		{1, w - 1, w - 1, "cas 0 0000ffff 00010000 was 0000ffff, 1 reg read, 1 admit", 1, w - 1, w, yes, false},
		{1, w, w, "cas 0 00010000 00010001 was 00010000, 1 reg read, 1 admit", 1, w, w + 1, yes, false},
		{1, 2 * w, 2 * w, "cas 0 00020000 00020001 was 00020000, 1 reg read, 1 admit", 1, 2 * w, 2*w + 1, yes, false},
		{1, top, top, "cas 0 ffffffff 00000000 was ffffffff, 1 reg read, 1 admit", 1, top, 0, yes, false},
		{1, 0, 1, "cas 0 00000000 00000001 was 00000001", 0, 0, 1, goes, false},
		{1, 2, 1, "cas 0 00000002 00000003 was 00000001", 0, 2, 1, goes, false},
		{1, 0, w, "cas 0 00000000 00000001 was 00010000", 0, 0, w, goes, false},
		{1, 1, w + 1, "cas 0 00000001 00000002 was 00010001", 0, 1, w + 1, goes, false},
		{1, 1, 0, "cas 0 00000001 00000002 was 00000000", 0, 1, 0, goes, false},
		{1, top, 0, "cas 0 ffffffff 00000000 was 00000000", 0, top, 0, goes, false},
	})
}

// P15.1: likewise of the lines of a writer that don't wait.
func TestRowsOfWriters(t *testing.T) {
	allHold(t, api.Lock, []row{
		{0, 8, 0, "load 0 was 00000000, 1 reg write", 1, 0, 0, goes, false},
		{0, 8, 1, "load 0 was 00000001, 1 reg write", 2, 1, 1, goes, false},
		{0, 0, 2, "load 0 was 00000002, 1 reg write", 2, 2, 2, goes, false},
		{0, 0, w - 1, "load 0 was 0000ffff, 1 reg write", 2, w - 1, w - 1, goes, false},
		{0, 0, w, "load 0 was 00010000, 1 reg write", 2, w, w, goes, false},
		{0, 0, w + 1, "load 0 was 00010001, 1 reg write", 2, w + 1, w + 1, goes, false},
		{0, 0, 2 * w, "load 0 was 00020000, 1 reg write", 2, 2 * w, 2 * w, goes, false},
		{0, 0, half, "load 0 was 80000000, 1 reg write", 2, half, half, goes, false},
		{0, 0, top, "load 0 was ffffffff, 1 reg write", 2, top, top, goes, false},
		{1, 0, 0, "cas 0 00000000 00010000 was 00000000, 1 admit", 1, 0, w, yes, false},
		{1, 7, 0, "cas 0 00000000 00010000 was 00000000, 1 admit", 1, 7, w, yes, false},
		{1, 0, 1, "cas 0 00000000 00010000 was 00000001", 2, 0, 1, goes, false},
		{1, 1, 1, "cas 0 00000000 00010000 was 00000001", 2, 1, 1, goes, false},
		{1, 0, w, "cas 0 00000000 00010000 was 00010000", 2, 0, w, goes, false},
		{1, w, w + 1, "cas 0 00000000 00010000 was 00010001", 2, w, w + 1, goes, false},
		{1, 0, half, "cas 0 00000000 00010000 was 80000000", 2, 0, half, goes, false},
		{1, 0, top, "cas 0 00000000 00010000 was ffffffff", 2, 0, top, goes, false},
	})
	allHold(t, api.Unlock, []row{
		{0, 8, w, "add 0 ffff0000 was 00010000, 1 leave, 1 pass", 0, 8, 0, yes, true},
		{0, 0, w + 1, "add 0 ffff0000 was 00010001, 1 leave, 1 pass", 0, 0, 1, yes, true},
		{0, top, w + 63, "add 0 ffff0000 was 0001003f, 1 leave, 1 pass", 0, top, 63, yes, true},
		{0, 8, 2*w - 1, "add 0 ffff0000 was 0001ffff, 1 leave, 1 pass", 0, 8, w - 1, yes, true},
		{0, 8, 2 * w, "add 0 ffff0000 was 00020000, 1 leave, 1 pass", 0, 8, w, yes, true},
		{0, 8, 0, "add 0 ffff0000 was 00000000, 1 leave, 1 pass", 0, 8, 0xffff0000, yes, true},
		{0, 8, 1, "add 0 ffff0000 was 00000001, 1 leave, 1 pass", 0, 8, 0xffff0001, yes, true},
		{0, 8, top, "add 0 ffff0000 was ffffffff, 1 leave, 1 pass", 0, 8, 0xfffeffff, yes, true},
	})
	allHold(t, api.Downgrade, []row{
		{0, 8, w, "add 0 ffff0001 was 00010000, 1 down", 0, 8, 1, yes, true},
		{0, 0, w + 1, "add 0 ffff0001 was 00010001, 1 down", 0, 0, 2, yes, true},
		{0, top, w + 63, "add 0 ffff0001 was 0001003f, 1 down", 0, top, 64, yes, true},
		{0, 8, 2*w - 1, "add 0 ffff0001 was 0001ffff, 1 down", 0, 8, w, yes, true},
		{0, 8, w - 1, "add 0 ffff0001 was 0000ffff, 1 down", 0, 8, 0, yes, true},
		{0, 8, 0, "add 0 ffff0001 was 00000000, 1 down", 0, 8, 0xffff0001, yes, true},
		{0, 8, top, "add 0 ffff0001 was ffffffff, 1 down", 0, 8, 0xffff0000, yes, true},
	})
}

// P15.1: likewise of a writer's try, and of the way up.
func TestRowsOfTries(t *testing.T) {
	allHold(t, api.TryLock, []row{
		{0, 8, 0, "load 0 was 00000000", 1, 0, 0, goes, false},
		{0, 0, 1, "load 0 was 00000001, 1 refuse", 0, 1, 1, no, false},
		{0, 0, 2, "load 0 was 00000002, 1 refuse", 0, 2, 2, no, false},
		{0, 0, w - 1, "load 0 was 0000ffff, 1 refuse", 0, w - 1, w - 1, no, false},
		{0, 0, w, "load 0 was 00010000, 1 refuse", 0, w, w, no, false},
		{0, 0, w + 1, "load 0 was 00010001, 1 refuse", 0, w + 1, w + 1, no, false},
		{0, 0, 2 * w, "load 0 was 00020000, 1 refuse", 0, 2 * w, 2 * w, no, false},
		{0, 0, half, "load 0 was 80000000, 1 refuse", 0, half, half, no, false},
		{0, 0, top, "load 0 was ffffffff, 1 refuse", 0, top, top, no, false},
		{1, 0, 0, "cas 0 00000000 00010000 was 00000000, 1 reg write, 1 admit", 1, 0, w, yes, false},
		{1, 7, 0, "cas 0 00000000 00010000 was 00000000, 1 reg write, 1 admit", 1, 7, w, yes, false},
		{1, 0, 1, "cas 0 00000000 00010000 was 00000001", 0, 0, 1, goes, false},
		{1, 1, 1, "cas 0 00000000 00010000 was 00000001", 0, 1, 1, goes, false},
		{1, w, w, "cas 0 00000000 00010000 was 00010000", 0, w, w, goes, false},
		{1, 0, w + 1, "cas 0 00000000 00010000 was 00010001", 0, 0, w + 1, goes, false},
		{1, 0, top, "cas 0 00000000 00010000 was ffffffff", 0, 0, top, goes, false},
	})
	allHold(t, api.TryUpgrade, []row{
		{0, 8, 1, "load 0 was 00000001", 1, 1, 1, goes, false},
		{0, 1, 0, "load 0 was 00000000, 1 refuse", 0, 0, 0, no, false},
		{0, 1, 2, "load 0 was 00000002, 1 refuse", 0, 2, 2, no, false},
		{0, 1, 3, "load 0 was 00000003, 1 refuse", 0, 3, 3, no, false},
		{0, 1, w - 1, "load 0 was 0000ffff, 1 refuse", 0, w - 1, w - 1, no, false},
		{0, 1, w, "load 0 was 00010000, 1 refuse", 0, w, w, no, false},
		{0, 1, w + 1, "load 0 was 00010001, 1 refuse", 0, w + 1, w + 1, no, false},
		{0, 1, 2*w + 1, "load 0 was 00020001, 1 refuse", 0, 2*w + 1, 2*w + 1, no, false},
		{0, 1, half + 1, "load 0 was 80000001, 1 refuse", 0, half + 1, half + 1, no, false},
		{0, 1, top, "load 0 was ffffffff, 1 refuse", 0, top, top, no, false},
		{1, 1, 1, "cas 0 00000001 00010000 was 00000001, 1 up", 1, 1, w, yes, false},
		{1, 7, 1, "cas 0 00000001 00010000 was 00000001, 1 up", 1, 7, w, yes, false},
		{1, 1, 0, "cas 0 00000001 00010000 was 00000000", 0, 1, 0, goes, false},
		{1, 0, 0, "cas 0 00000001 00010000 was 00000000", 0, 0, 0, goes, false},
		{1, 2, 2, "cas 0 00000001 00010000 was 00000002", 0, 2, 2, goes, false},
		{1, 1, w, "cas 0 00000001 00010000 was 00010000", 0, 1, w, goes, false},
		{1, w + 1, w + 1, "cas 0 00000001 00010000 was 00010001", 0, w + 1, w + 1, goes, false},
		{1, 1, top, "cas 0 00000001 00010000 was ffffffff", 0, 1, top, goes, false},
	})
}
