package wf_test

import (
	"slices"
	"strings"
	"testing"

	"stileman/acc"
	"stileman/api"
	"stileman/cells"
	"stileman/line"
	"stileman/note"
	"stileman/place"
	"stileman/wf"
)

// How an operation is behind a step: not ended, or with a result.
const (
	goes = api.RetNone
	no   = api.RetFalse
	yes  = api.RetTrue
)

// marked are so many cells, each with a word of its own, but for the lock's.
func marked(size int, word uint32) []uint32 {
	l := make([]uint32, max(size, 1))
	for c := range l {
		l[c] = 0xabc000 + uint32(c)
	}
	l[0] = word
	return l[:size]
}

// text is what a step of the run did: its access, and its notes.
func text(r *line.Run) string {
	return strings.Join(append([]string{acc.Text(r.Access)}, note.Rows(r.Notes...)...), ", ")
}

// row is a step of the task 1 of three: the line, A, and the lock's word ahead of it; the access and the notes; the line, A, the word and the result behind it, and whether a wake-up begins.
type row struct {
	line    int
	a, was  uint32
	step    string
	to      int
	aThen   uint32
	left    uint32
	ret     int
	wakesUp bool
}

// holds does the row's step, of the operation, and fails the test, unless all is as it tells; B stays, and so do all other cells.
func (x row) holds(t *testing.T, op int) {
	t.Helper()
	for _, mode := range modes() {
		m, _ := cells.From(marked(20, x.was)...)
		r := line.Run{Mem: m, Map: place.Map{N: 3}, Mode: mode, Task: 1}
		r.Frame = api.Frame{Op: op, Line: x.line, A: x.a, B: 9}
		over := r.Step(wf.Lines)
		then := api.Frame{Op: op, Line: x.to, A: x.aThen, B: 9, Ret: x.ret}
		if mode == api.Parked && x.wakesUp {
			then.Wake = api.Wake{On: true}
		}
		if text(&r) != x.step || r.Frame != then {
			t.Errorf("the operation %d, %+v in the mode %d: %s, %+v", op, x, mode, text(&r), r.Frame)
		}
		if over != (x.ret != goes && !then.Wake.On) {
			t.Errorf("the operation %d, %+v in the mode %d: over %v", op, x, mode, over)
		}
		if all := m.All(); !slices.Equal(all, marked(20, x.left)) {
			t.Errorf("the operation %d, %+v in the mode %d: the cells are %x", op, x, mode, all)
		}
	}
}

// allHold does the rows' steps, of the operation.
func allHold(t *testing.T, op int, l []row) {
	t.Helper()
	for _, x := range l {
		x.holds(t, op)
	}
}

// P16.1: the lines of a reader that don't wait, each way out of them: the access, the notes, the word behind it, the frame, and the wake-up.
func TestRowsOfRLock(t *testing.T) {
	allHold(t, api.RLock, []row{
		{0, 8, 0, "load 0 was 00000000, 1 reg read", 1, 0, 0, goes, false},
		{0, 0, 1, "load 0 was 00000001, 1 reg read", 1, 1, 1, goes, false},
		{0, 1, 2, "load 0 was 00000002, 1 reg read", 1, 2, 2, goes, false},
		{0, 0xffffffff, 0x00000040, "load 0 was 00000040, 1 reg read", 1, 0x00000040, 0x00000040, goes, false},
		{0, 0x00010000, 0x000000ff, "load 0 was 000000ff, 1 reg read", 1, 0x000000ff, 0x000000ff, goes, false},
		{0, 0x00070700, 0x00ffff00, "load 0 was 00ffff00, 1 reg read", 1, 0x00ffff00, 0x00ffff00, goes, false},
		{0, 8, 0x00ffff01, "load 0 was 00ffff01, 1 reg read", 1, 0x00ffff01, 0x00ffff01, goes, false},
		{0, 0, 0x00070740, "load 0 was 00070740, 1 reg read", 1, 0x00070740, 0x00070740, goes, false},
		{0, 1, 0x000707ff, "load 0 was 000707ff, 1 reg read", 1, 0x000707ff, 0x000707ff, goes, false},
		{0, 0xffffffff, 0x00010000, "load 0 was 00010000, 1 reg read", 2, 0x00010000, 0x00010000, goes, false},
		{0, 0x00010000, 0x00000100, "load 0 was 00000100, 1 reg read", 2, 0x00000100, 0x00000100, goes, false},
		{0, 0x00070700, 0x0000ff00, "load 0 was 0000ff00, 1 reg read", 2, 0x0000ff00, 0x0000ff00, goes, false},
		{0, 8, 0x00ff0000, "load 0 was 00ff0000, 1 reg read", 2, 0x00ff0000, 0x00ff0000, goes, false},
		{0, 0, 0x00fffe00, "load 0 was 00fffe00, 1 reg read", 2, 0x00fffe00, 0x00fffe00, goes, false},
		{0, 1, 0x00feff01, "load 0 was 00feff01, 1 reg read", 2, 0x00feff01, 0x00feff01, goes, false},
		{0, 0xffffffff, 0x00080701, "load 0 was 00080701, 1 reg read", 2, 0x00080701, 0x00080701, goes, false},
		{0, 0x00010000, 0x01000000, "load 0 was 01000000, 1 reg read", 1, 0x01000000, 0x01000000, goes, false},
		{0, 0x00070700, 0x5a070702, "load 0 was 5a070702, 1 reg read", 1, 0x5a070702, 0x5a070702, goes, false},
		{0, 8, 0x07000700, "load 0 was 07000700, 1 reg read", 2, 0x07000700, 0x07000700, goes, false},
		{0, 0, 0x07080700, "load 0 was 07080700, 1 reg read", 2, 0x07080700, 0x07080700, goes, false},
		{0, 1, 0xff00ff00, "load 0 was ff00ff00, 1 reg read", 2, 0xff00ff00, 0xff00ff00, goes, false},
		{0, 0xffffffff, 0x80000001, "load 0 was 80000001, 1 reg read", 1, 0x80000001, 0x80000001, goes, false},
		{0, 0x00010000, 0xffffffff, "load 0 was ffffffff, 1 reg read", 1, 0xffffffff, 0xffffffff, goes, false},
		{1, 0, 0, "cas 0 00000000 00000001 was 00000000, 1 admit", 1, 0, 1, yes, false},
		{1, 1, 1, "cas 0 00000001 00000002 was 00000001, 1 admit", 1, 1, 2, yes, false},
		{1, 0x00000040, 0x00000040, "cas 0 00000040 00000041 was 00000040, 1 admit", 1, 0x00000040, 0x00000041, yes, false},
		{1, 0x00ffff00, 0x00ffff00, "cas 0 00ffff00 00ffff01 was 00ffff00, 1 admit", 1, 0x00ffff00, 0x00ffff01, yes, false},
		{1, 0x00ffff01, 0x00ffff01, "cas 0 00ffff01 00ffff02 was 00ffff01, 1 admit", 1, 0x00ffff01, 0x00ffff02, yes, false},
		{1, 0x000707ff, 0x000707ff, "cas 0 000707ff 00070800 was 000707ff, 1 admit", 1, 0x000707ff, 0x00070800, yes, false},
		{1, 0x0000ffff, 0x0000ffff, "cas 0 0000ffff 00010000 was 0000ffff, 1 admit", 1, 0x0000ffff, 0x00010000, yes, false},
		{1, 0x5a070702, 0x5a070702, "cas 0 5a070702 5a070703 was 5a070702, 1 admit", 1, 0x5a070702, 0x5a070703, yes, false},
		{1, 0x00010000, 0x00010000, "cas 0 00010000 00010001 was 00010000, 1 admit", 1, 0x00010000, 0x00010001, yes, false},
		{1, 0xffffffff, 0xffffffff, "cas 0 ffffffff 00000000 was ffffffff, 1 admit", 1, 0xffffffff, 0, yes, false},
		{1, 0, 1, "cas 0 00000000 00000001 was 00000001", 3, 0, 1, goes, false},
		{1, 1, 0, "cas 0 00000001 00000002 was 00000000", 3, 1, 0, goes, false},
		{1, 2, 1, "cas 0 00000002 00000003 was 00000001", 3, 2, 1, goes, false},
		{1, 0, 0x00010000, "cas 0 00000000 00000001 was 00010000", 3, 0, 0x00010000, goes, false},
		{1, 0x00070700, 0x00080700, "cas 0 00070700 00070701 was 00080700", 3, 0x00070700, 0x00080700, goes, false},
		{1, 0x00070700, 0x00080800, "cas 0 00070700 00070701 was 00080800", 3, 0x00070700, 0x00080800, goes, false},
		{1, 0x00070700, 0x00070800, "cas 0 00070700 00070701 was 00070800", 3, 0x00070700, 0x00070800, goes, false},
		{1, 0x00070700, 0x01070700, "cas 0 00070700 00070701 was 01070700", 3, 0x00070700, 0x01070700, goes, false},
		{1, 0x00070700, 0x80070700, "cas 0 00070700 00070701 was 80070700", 3, 0x00070700, 0x80070700, goes, false},
		{1, 0x00070701, 0x00070700, "cas 0 00070701 00070702 was 00070700", 3, 0x00070701, 0x00070700, goes, false},
		{1, 0xffffffff, 0, "cas 0 ffffffff 00000000 was 00000000", 3, 0xffffffff, 0, goes, false},
		{1, 0, 0xffffffff, "cas 0 00000000 00000001 was ffffffff", 3, 0, 0xffffffff, goes, false},
	})
}

// P16.1: likewise of one that looks again.
func TestRowsOfRLockAgain(t *testing.T) {
	allHold(t, api.RLock, []row{
		{3, 8, 0, "load 0 was 00000000", 1, 0, 0, goes, false},
		{3, 0, 1, "load 0 was 00000001", 1, 1, 1, goes, false},
		{3, 1, 2, "load 0 was 00000002", 1, 2, 2, goes, false},
		{3, 0xffffffff, 0x00000040, "load 0 was 00000040", 1, 0x00000040, 0x00000040, goes, false},
		{3, 0x00010000, 0x000000ff, "load 0 was 000000ff", 1, 0x000000ff, 0x000000ff, goes, false},
		{3, 0x00070700, 0x00ffff00, "load 0 was 00ffff00", 1, 0x00ffff00, 0x00ffff00, goes, false},
		{3, 8, 0x00ffff01, "load 0 was 00ffff01", 1, 0x00ffff01, 0x00ffff01, goes, false},
		{3, 0, 0x00070740, "load 0 was 00070740", 1, 0x00070740, 0x00070740, goes, false},
		{3, 1, 0x000707ff, "load 0 was 000707ff", 1, 0x000707ff, 0x000707ff, goes, false},
		{3, 0xffffffff, 0x00010000, "load 0 was 00010000", 2, 0x00010000, 0x00010000, goes, false},
		{3, 0x00010000, 0x00000100, "load 0 was 00000100", 2, 0x00000100, 0x00000100, goes, false},
		{3, 0x00070700, 0x0000ff00, "load 0 was 0000ff00", 2, 0x0000ff00, 0x0000ff00, goes, false},
		{3, 8, 0x00ff0000, "load 0 was 00ff0000", 2, 0x00ff0000, 0x00ff0000, goes, false},
		{3, 0, 0x00fffe00, "load 0 was 00fffe00", 2, 0x00fffe00, 0x00fffe00, goes, false},
		{3, 1, 0x00feff01, "load 0 was 00feff01", 2, 0x00feff01, 0x00feff01, goes, false},
		{3, 0xffffffff, 0x00080701, "load 0 was 00080701", 2, 0x00080701, 0x00080701, goes, false},
		{3, 0x00010000, 0x01000000, "load 0 was 01000000", 1, 0x01000000, 0x01000000, goes, false},
		{3, 0x00070700, 0x5a070702, "load 0 was 5a070702", 1, 0x5a070702, 0x5a070702, goes, false},
		{3, 8, 0x07000700, "load 0 was 07000700", 2, 0x07000700, 0x07000700, goes, false},
		{3, 0, 0x07080700, "load 0 was 07080700", 2, 0x07080700, 0x07080700, goes, false},
		{3, 1, 0xff00ff00, "load 0 was ff00ff00", 2, 0xff00ff00, 0xff00ff00, goes, false},
		{3, 0xffffffff, 0x80000001, "load 0 was 80000001", 1, 0x80000001, 0x80000001, goes, false},
		{3, 0x00010000, 0xffffffff, "load 0 was ffffffff", 1, 0xffffffff, 0xffffffff, goes, false},
	})
}

// P16.1: likewise of one that leaves.
func TestRowsOfRUnlock(t *testing.T) {
	allHold(t, api.RUnlock, []row{
		{0, 8, 1, "add 0 ffffffff was 00000001, 1 release", 0, 8, 0, yes, true},
		{0, 0, 2, "add 0 ffffffff was 00000002, 1 release", 0, 0, 1, yes, true},
		{0, 1, 0x00000040, "add 0 ffffffff was 00000040, 1 release", 0, 1, 0x0000003f, yes, true},
		{0, 0xffffffff, 0x000000ff, "add 0 ffffffff was 000000ff, 1 release", 0, 0xffffffff, 0x000000fe, yes, true},
		{0, 0x00010000, 0x00ffff01, "add 0 ffffffff was 00ffff01, 1 release", 0, 0x00010000, 0x00ffff00, yes, true},
		{0, 0x00070700, 0x0100ff01, "add 0 ffffffff was 0100ff01, 1 release", 0, 0x00070700, 0x0100ff00, yes, true},
		{0, 8, 0x00080702, "add 0 ffffffff was 00080702, 1 release", 0, 8, 0x00080701, yes, true},
		{0, 0, 0x5a070701, "add 0 ffffffff was 5a070701, 1 release", 0, 0, 0x5a070700, yes, true},
		{0, 1, 0, "add 0 ffffffff was 00000000, 1 release", 0, 1, 0xffffffff, yes, true},
		{0, 0xffffffff, 0x00010000, "add 0 ffffffff was 00010000, 1 release", 0, 0xffffffff, 0x0000ffff, yes, true},
		{0, 0x00010000, 0x00010100, "add 0 ffffffff was 00010100, 1 release", 0, 0x00010000, 0x000100ff, yes, true},
		{0, 0x00070700, 0x00ffff00, "add 0 ffffffff was 00ffff00, 1 release", 0, 0x00070700, 0x00fffeff, yes, true},
		{0, 8, 0xff000000, "add 0 ffffffff was ff000000, 1 release", 0, 8, 0xfeffffff, yes, true},
		{0, 0, 0xffffffff, "add 0 ffffffff was ffffffff, 1 release", 0, 0, 0xfffffffe, yes, true},
	})
}

// P16.1: likewise of a reader's try.
func TestRowsOfTryRLock(t *testing.T) {
	allHold(t, api.TryRLock, []row{
		{0, 8, 0, "load 0 was 00000000", 1, 0, 0, goes, false},
		{0, 0, 1, "load 0 was 00000001", 1, 1, 1, goes, false},
		{0, 1, 2, "load 0 was 00000002", 1, 2, 2, goes, false},
		{0, 0xffffffff, 0x00000040, "load 0 was 00000040", 1, 0x00000040, 0x00000040, goes, false},
		{0, 0x00010000, 0x000000ff, "load 0 was 000000ff", 1, 0x000000ff, 0x000000ff, goes, false},
		{0, 0x00070700, 0x00ffff00, "load 0 was 00ffff00", 1, 0x00ffff00, 0x00ffff00, goes, false},
		{0, 8, 0x00ffff01, "load 0 was 00ffff01", 1, 0x00ffff01, 0x00ffff01, goes, false},
		{0, 0, 0x00070740, "load 0 was 00070740", 1, 0x00070740, 0x00070740, goes, false},
		{0, 1, 0x000707ff, "load 0 was 000707ff", 1, 0x000707ff, 0x000707ff, goes, false},
		{0, 0xffffffff, 0x00010000, "load 0 was 00010000, 1 refuse", 0, 0x00010000, 0x00010000, no, false},
		{0, 0x00010000, 0x00000100, "load 0 was 00000100, 1 refuse", 0, 0x00000100, 0x00000100, no, false},
		{0, 0x00070700, 0x0000ff00, "load 0 was 0000ff00, 1 refuse", 0, 0x0000ff00, 0x0000ff00, no, false},
		{0, 8, 0x00ff0000, "load 0 was 00ff0000, 1 refuse", 0, 0x00ff0000, 0x00ff0000, no, false},
		{0, 0, 0x00fffe00, "load 0 was 00fffe00, 1 refuse", 0, 0x00fffe00, 0x00fffe00, no, false},
		{0, 1, 0x00feff01, "load 0 was 00feff01, 1 refuse", 0, 0x00feff01, 0x00feff01, no, false},
		{0, 0xffffffff, 0x00080701, "load 0 was 00080701, 1 refuse", 0, 0x00080701, 0x00080701, no, false},
		{0, 0x00010000, 0x01000000, "load 0 was 01000000", 1, 0x01000000, 0x01000000, goes, false},
		{0, 0x00070700, 0x5a070702, "load 0 was 5a070702", 1, 0x5a070702, 0x5a070702, goes, false},
		{0, 8, 0x07000700, "load 0 was 07000700, 1 refuse", 0, 0x07000700, 0x07000700, no, false},
		{0, 0, 0x07080700, "load 0 was 07080700, 1 refuse", 0, 0x07080700, 0x07080700, no, false},
		{0, 1, 0xff00ff00, "load 0 was ff00ff00, 1 refuse", 0, 0xff00ff00, 0xff00ff00, no, false},
		{0, 0xffffffff, 0x80000001, "load 0 was 80000001", 1, 0x80000001, 0x80000001, goes, false},
		{0, 0x00010000, 0xffffffff, "load 0 was ffffffff", 1, 0xffffffff, 0xffffffff, goes, false},
		{1, 0, 0, "cas 0 00000000 00000001 was 00000000, 1 reg read, 1 admit", 1, 0, 1, yes, false},
		{1, 1, 1, "cas 0 00000001 00000002 was 00000001, 1 reg read, 1 admit", 1, 1, 2, yes, false},
		{1, 0x00000040, 0x00000040, "cas 0 00000040 00000041 was 00000040, 1 reg read, 1 admit", 1, 0x00000040, 0x00000041, yes, false},
		{1, 0x00ffff00, 0x00ffff00, "cas 0 00ffff00 00ffff01 was 00ffff00, 1 reg read, 1 admit", 1, 0x00ffff00, 0x00ffff01, yes, false},
		{1, 0x00ffff01, 0x00ffff01, "cas 0 00ffff01 00ffff02 was 00ffff01, 1 reg read, 1 admit", 1, 0x00ffff01, 0x00ffff02, yes, false},
		{1, 0x000707ff, 0x000707ff, "cas 0 000707ff 00070800 was 000707ff, 1 reg read, 1 admit", 1, 0x000707ff, 0x00070800, yes, false},
		{1, 0x0000ffff, 0x0000ffff, "cas 0 0000ffff 00010000 was 0000ffff, 1 reg read, 1 admit", 1, 0x0000ffff, 0x00010000, yes, false},
		{1, 0x5a070702, 0x5a070702, "cas 0 5a070702 5a070703 was 5a070702, 1 reg read, 1 admit", 1, 0x5a070702, 0x5a070703, yes, false},
		{1, 0x00010000, 0x00010000, "cas 0 00010000 00010001 was 00010000, 1 reg read, 1 admit", 1, 0x00010000, 0x00010001, yes, false},
		{1, 0xffffffff, 0xffffffff, "cas 0 ffffffff 00000000 was ffffffff, 1 reg read, 1 admit", 1, 0xffffffff, 0, yes, false},
		{1, 0, 1, "cas 0 00000000 00000001 was 00000001", 0, 0, 1, goes, false},
		{1, 1, 0, "cas 0 00000001 00000002 was 00000000", 0, 1, 0, goes, false},
		{1, 2, 1, "cas 0 00000002 00000003 was 00000001", 0, 2, 1, goes, false},
		{1, 0, 0x00010000, "cas 0 00000000 00000001 was 00010000", 0, 0, 0x00010000, goes, false},
		{1, 0x00070700, 0x00080700, "cas 0 00070700 00070701 was 00080700", 0, 0x00070700, 0x00080700, goes, false},
		{1, 0x00070700, 0x00080800, "cas 0 00070700 00070701 was 00080800", 0, 0x00070700, 0x00080800, goes, false},
		{1, 0x00070700, 0x00070800, "cas 0 00070700 00070701 was 00070800", 0, 0x00070700, 0x00070800, goes, false},
		{1, 0x00070700, 0x01070700, "cas 0 00070700 00070701 was 01070700", 0, 0x00070700, 0x01070700, goes, false},
		{1, 0x00070700, 0x80070700, "cas 0 00070700 00070701 was 80070700", 0, 0x00070700, 0x80070700, goes, false},
		{1, 0x00070701, 0x00070700, "cas 0 00070701 00070702 was 00070700", 0, 0x00070701, 0x00070700, goes, false},
		{1, 0xffffffff, 0, "cas 0 ffffffff 00000000 was 00000000", 0, 0xffffffff, 0, goes, false},
		{1, 0, 0xffffffff, "cas 0 00000000 00000001 was ffffffff", 0, 0, 0xffffffff, goes, false},
	})
}

// P16.1: likewise of a writer that draws its ticket.
func TestRowsOfLock(t *testing.T) {
	allHold(t, api.Lock, []row{
		{0, 8, 0, "add 0 00010000 was 00000000, 1 reg write", 1, 0, 0x00010000, goes, false},
		{0, 0, 1, "add 0 00010000 was 00000001, 1 reg write", 1, 1, 0x00010001, goes, false},
		{0, 1, 0x00000040, "add 0 00010000 was 00000040, 1 reg write", 1, 0x00000040, 0x00010040, goes, false},
		{0, 0xffffffff, 0x00010000, "add 0 00010000 was 00010000, 1 reg write", 1, 0x00010000, 0x00020000, goes, false},
		{0, 0x00010000, 0x00ff0000, "add 0 00010000 was 00ff0000, 1 reg write", 1, 0x00ff0000, 0x01000000, goes, false},
		{0, 0x00070700, 0x00ffff00, "add 0 00010000 was 00ffff00, 1 reg write", 1, 0x00ffff00, 0x0100ff00, goes, false},
		{0, 8, 0x00ffff01, "add 0 00010000 was 00ffff01, 1 reg write", 1, 0x00ffff01, 0x0100ff01, goes, false},
		{0, 0, 0x00fffe00, "add 0 00010000 was 00fffe00, 1 reg write", 1, 0x00fffe00, 0x0100fe00, goes, false},
		{0, 1, 0x00070740, "add 0 00010000 was 00070740, 1 reg write", 1, 0x00070740, 0x00080740, goes, false},
		{0, 0xffffffff, 0x5a070700, "add 0 00010000 was 5a070700, 1 reg write", 1, 0x5a070700, 0x5a080700, goes, false},
		{0, 0x00010000, 0x01000000, "add 0 00010000 was 01000000, 1 reg write", 1, 0x01000000, 0x01010000, goes, false},
		{0, 0x00070700, 0xffffff00, "add 0 00010000 was ffffff00, 1 reg write", 1, 0xffffff00, 0x0000ff00, goes, false},
		{0, 8, 0xfffefe00, "add 0 00010000 was fffefe00, 1 reg write", 1, 0xfffefe00, 0xfffffe00, goes, false},
		{0, 0, 0x80000000, "add 0 00010000 was 80000000, 1 reg write", 1, 0x80000000, 0x80010000, goes, false},
		{0, 1, 0xffffffff, "add 0 00010000 was ffffffff, 1 reg write", 1, 0xffffffff, 0x0000ffff, goes, false},
	})
}

// P16.1: likewise of a writer that leaves: what is added hangs on the word that was kept alone.
func TestRowsOfUnlock(t *testing.T) {
	allHold(t, api.Unlock, []row{
		{0, 8, 0, "load 0 was 00000000", 1, 0, 0, goes, false},
		{0, 0, 1, "load 0 was 00000001", 1, 1, 1, goes, false},
		{0, 1, 2, "load 0 was 00000002", 1, 2, 2, goes, false},
		{0, 0xffffffff, 0x00000040, "load 0 was 00000040", 1, 0x00000040, 0x00000040, goes, false},
		{0, 0x00010000, 0x000000ff, "load 0 was 000000ff", 1, 0x000000ff, 0x000000ff, goes, false},
		{0, 0x00070700, 0x00ffff00, "load 0 was 00ffff00", 1, 0x00ffff00, 0x00ffff00, goes, false},
		{0, 8, 0x00ffff01, "load 0 was 00ffff01", 1, 0x00ffff01, 0x00ffff01, goes, false},
		{0, 0, 0x00070740, "load 0 was 00070740", 1, 0x00070740, 0x00070740, goes, false},
		{0, 1, 0x000707ff, "load 0 was 000707ff", 1, 0x000707ff, 0x000707ff, goes, false},
		{0, 0xffffffff, 0x00010000, "load 0 was 00010000", 1, 0x00010000, 0x00010000, goes, false},
		{0, 0x00010000, 0x00000100, "load 0 was 00000100", 1, 0x00000100, 0x00000100, goes, false},
		{0, 0x00070700, 0x0000ff00, "load 0 was 0000ff00", 1, 0x0000ff00, 0x0000ff00, goes, false},
		{0, 8, 0x00ff0000, "load 0 was 00ff0000", 1, 0x00ff0000, 0x00ff0000, goes, false},
		{0, 0, 0x00fffe00, "load 0 was 00fffe00", 1, 0x00fffe00, 0x00fffe00, goes, false},
		{0, 1, 0x00feff01, "load 0 was 00feff01", 1, 0x00feff01, 0x00feff01, goes, false},
		{0, 0xffffffff, 0x00080701, "load 0 was 00080701", 1, 0x00080701, 0x00080701, goes, false},
		{0, 0x00010000, 0x01000000, "load 0 was 01000000", 1, 0x01000000, 0x01000000, goes, false},
		{0, 0x00070700, 0x5a070702, "load 0 was 5a070702", 1, 0x5a070702, 0x5a070702, goes, false},
		{0, 8, 0x07000700, "load 0 was 07000700", 1, 0x07000700, 0x07000700, goes, false},
		{0, 0, 0x07080700, "load 0 was 07080700", 1, 0x07080700, 0x07080700, goes, false},
		{0, 1, 0xff00ff00, "load 0 was ff00ff00", 1, 0xff00ff00, 0xff00ff00, goes, false},
		{0, 0xffffffff, 0x80000001, "load 0 was 80000001", 1, 0x80000001, 0x80000001, goes, false},
		{0, 0x00010000, 0xffffffff, "load 0 was ffffffff", 1, 0xffffffff, 0xffffffff, goes, false},
		{1, 0x00010000, 0x00010000, "add 0 00000100 was 00010000, 1 leave, 1 pass", 1, 0x00010000, 0x00010100, yes, true},
		{1, 0x00010000, 0x00040000, "add 0 00000100 was 00040000, 1 leave, 1 pass", 1, 0x00010000, 0x00040100, yes, true},
		{1, 0x0000ff00, 0x0000ff00, "add 0 ffff0100 was 0000ff00, 1 leave, 1 pass", 1, 0x0000ff00, 0, yes, true},
		{1, 0x0100ff00, 0x0100ff00, "add 0 ffff0100 was 0100ff00, 1 leave, 1 pass", 1, 0x0100ff00, 0x01000000, yes, true},
		{1, 0x0100ff00, 0x0103ff00, "add 0 ffff0100 was 0103ff00, 1 leave, 1 pass", 1, 0x0100ff00, 0x01030000, yes, true},
		{1, 0x00fffe00, 0x00fffe00, "add 0 00000100 was 00fffe00, 1 leave, 1 pass", 1, 0x00fffe00, 0x00ffff00, yes, true},
		{1, 0x00fffe00, 0x0101fe00, "add 0 00000100 was 0101fe00, 1 leave, 1 pass", 1, 0x00fffe00, 0x0101ff00, yes, true},
		{1, 0x00080700, 0x00080700, "add 0 00000100 was 00080700, 1 leave, 1 pass", 1, 0x00080700, 0x00080800, yes, true},
		{1, 0x5a080700, 0x5a080700, "add 0 00000100 was 5a080700, 1 leave, 1 pass", 1, 0x5a080700, 0x5a080800, yes, true},
		{1, 0xffffff00, 0xffffff00, "add 0 ffff0100 was ffffff00, 1 leave, 1 pass", 1, 0xffffff00, 0xffff0000, yes, true},
		{1, 0, 0, "add 0 00000100 was 00000000, 1 leave, 1 pass", 1, 0, 0x00000100, yes, true},
		{1, 0x000000ff, 0x00010000, "add 0 00000100 was 00010000, 1 leave, 1 pass", 1, 0x000000ff, 0x00010100, yes, true},
		{1, 0x00ff0000, 0x00010000, "add 0 00000100 was 00010000, 1 leave, 1 pass", 1, 0x00ff0000, 0x00010100, yes, true},
		{1, 0x0000fe00, 0x0000ff00, "add 0 00000100 was 0000ff00, 1 leave, 1 pass", 1, 0x0000fe00, 0x00010000, yes, true},
		{1, 0x0000ff00, 0x0000fe00, "add 0 ffff0100 was 0000fe00, 1 leave, 1 pass", 1, 0x0000ff00, 0xffffff00, yes, true},
		{1, 0x0000ffff, 0, "add 0 ffff0100 was 00000000, 1 leave, 1 pass", 1, 0x0000ffff, 0xffff0100, yes, true},
		{1, 0xff0000ff, 0x0000ff00, "add 0 00000100 was 0000ff00, 1 leave, 1 pass", 1, 0xff0000ff, 0x00010000, yes, true},
		{1, 0xffffffff, 0xffffffff, "add 0 ffff0100 was ffffffff, 1 leave, 1 pass", 1, 0xffffffff, 0xffff00ff, yes, true},
		{1, 0x80000000, 0x80000000, "add 0 00000100 was 80000000, 1 leave, 1 pass", 1, 0x80000000, 0x80000100, yes, true},
	})
}

// P16.1: likewise of one that goes down.
func TestRowsOfDowngrade(t *testing.T) {
	allHold(t, api.Downgrade, []row{
		{0, 8, 0, "load 0 was 00000000", 1, 0, 0, goes, false},
		{0, 0, 1, "load 0 was 00000001", 1, 1, 1, goes, false},
		{0, 1, 2, "load 0 was 00000002", 1, 2, 2, goes, false},
		{0, 0xffffffff, 0x00000040, "load 0 was 00000040", 1, 0x00000040, 0x00000040, goes, false},
		{0, 0x00010000, 0x000000ff, "load 0 was 000000ff", 1, 0x000000ff, 0x000000ff, goes, false},
		{0, 0x00070700, 0x00ffff00, "load 0 was 00ffff00", 1, 0x00ffff00, 0x00ffff00, goes, false},
		{0, 8, 0x00ffff01, "load 0 was 00ffff01", 1, 0x00ffff01, 0x00ffff01, goes, false},
		{0, 0, 0x00070740, "load 0 was 00070740", 1, 0x00070740, 0x00070740, goes, false},
		{0, 1, 0x000707ff, "load 0 was 000707ff", 1, 0x000707ff, 0x000707ff, goes, false},
		{0, 0xffffffff, 0x00010000, "load 0 was 00010000", 1, 0x00010000, 0x00010000, goes, false},
		{0, 0x00010000, 0x00000100, "load 0 was 00000100", 1, 0x00000100, 0x00000100, goes, false},
		{0, 0x00070700, 0x0000ff00, "load 0 was 0000ff00", 1, 0x0000ff00, 0x0000ff00, goes, false},
		{0, 8, 0x00ff0000, "load 0 was 00ff0000", 1, 0x00ff0000, 0x00ff0000, goes, false},
		{0, 0, 0x00fffe00, "load 0 was 00fffe00", 1, 0x00fffe00, 0x00fffe00, goes, false},
		{0, 1, 0x00feff01, "load 0 was 00feff01", 1, 0x00feff01, 0x00feff01, goes, false},
		{0, 0xffffffff, 0x00080701, "load 0 was 00080701", 1, 0x00080701, 0x00080701, goes, false},
		{0, 0x00010000, 0x01000000, "load 0 was 01000000", 1, 0x01000000, 0x01000000, goes, false},
		{0, 0x00070700, 0x5a070702, "load 0 was 5a070702", 1, 0x5a070702, 0x5a070702, goes, false},
		{0, 8, 0x07000700, "load 0 was 07000700", 1, 0x07000700, 0x07000700, goes, false},
		{0, 0, 0x07080700, "load 0 was 07080700", 1, 0x07080700, 0x07080700, goes, false},
		{0, 1, 0xff00ff00, "load 0 was ff00ff00", 1, 0xff00ff00, 0xff00ff00, goes, false},
		{0, 0xffffffff, 0x80000001, "load 0 was 80000001", 1, 0x80000001, 0x80000001, goes, false},
		{0, 0x00010000, 0xffffffff, "load 0 was ffffffff", 1, 0xffffffff, 0xffffffff, goes, false},
		{1, 0x00010000, 0x00010000, "add 0 00000101 was 00010000, 1 down", 1, 0x00010000, 0x00010101, yes, true},
		{1, 0x00010000, 0x00040000, "add 0 00000101 was 00040000, 1 down", 1, 0x00010000, 0x00040101, yes, true},
		{1, 0x0000ff00, 0x0000ff00, "add 0 ffff0101 was 0000ff00, 1 down", 1, 0x0000ff00, 1, yes, true},
		{1, 0x0100ff00, 0x0100ff00, "add 0 ffff0101 was 0100ff00, 1 down", 1, 0x0100ff00, 0x01000001, yes, true},
		{1, 0x0100ff00, 0x0103ff00, "add 0 ffff0101 was 0103ff00, 1 down", 1, 0x0100ff00, 0x01030001, yes, true},
		{1, 0x00fffe00, 0x00fffe00, "add 0 00000101 was 00fffe00, 1 down", 1, 0x00fffe00, 0x00ffff01, yes, true},
		{1, 0x00fffe00, 0x0101fe00, "add 0 00000101 was 0101fe00, 1 down", 1, 0x00fffe00, 0x0101ff01, yes, true},
		{1, 0x00080700, 0x00080700, "add 0 00000101 was 00080700, 1 down", 1, 0x00080700, 0x00080801, yes, true},
		{1, 0x5a080700, 0x5a080700, "add 0 00000101 was 5a080700, 1 down", 1, 0x5a080700, 0x5a080801, yes, true},
		{1, 0xffffff00, 0xffffff00, "add 0 ffff0101 was ffffff00, 1 down", 1, 0xffffff00, 0xffff0001, yes, true},
		{1, 0, 0, "add 0 00000101 was 00000000, 1 down", 1, 0, 0x00000101, yes, true},
		{1, 0x000000ff, 0x00010000, "add 0 00000101 was 00010000, 1 down", 1, 0x000000ff, 0x00010101, yes, true},
		{1, 0x00ff0000, 0x00010000, "add 0 00000101 was 00010000, 1 down", 1, 0x00ff0000, 0x00010101, yes, true},
		{1, 0x0000fe00, 0x0000ff00, "add 0 00000101 was 0000ff00, 1 down", 1, 0x0000fe00, 0x00010001, yes, true},
		{1, 0x0000ff00, 0x0000fe00, "add 0 ffff0101 was 0000fe00, 1 down", 1, 0x0000ff00, 0xffffff01, yes, true},
		{1, 0x0000ffff, 0, "add 0 ffff0101 was 00000000, 1 down", 1, 0x0000ffff, 0xffff0101, yes, true},
		{1, 0xff0000ff, 0x0000ff00, "add 0 00000101 was 0000ff00, 1 down", 1, 0xff0000ff, 0x00010001, yes, true},
		{1, 0xffffffff, 0xffffffff, "add 0 ffff0101 was ffffffff, 1 down", 1, 0xffffffff, 0xffff0100, yes, true},
		{1, 0x80000000, 0x80000000, "add 0 00000101 was 80000000, 1 down", 1, 0x80000000, 0x80000101, yes, true},
	})
}

// P16.1: likewise of a writer's try.
func TestRowsOfTryLock(t *testing.T) {
	allHold(t, api.TryLock, []row{
		{0, 8, 0, "load 0 was 00000000", 1, 0, 0, goes, false},
		{0, 0, 1, "load 0 was 00000001, 1 refuse", 0, 1, 1, no, false},
		{0, 1, 2, "load 0 was 00000002, 1 refuse", 0, 2, 2, no, false},
		{0, 0xffffffff, 0x00000040, "load 0 was 00000040, 1 refuse", 0, 0x00000040, 0x00000040, no, false},
		{0, 0x00010000, 0x000000ff, "load 0 was 000000ff, 1 refuse", 0, 0x000000ff, 0x000000ff, no, false},
		{0, 0x00070700, 0x00ffff00, "load 0 was 00ffff00", 1, 0x00ffff00, 0x00ffff00, goes, false},
		{0, 8, 0x00ffff01, "load 0 was 00ffff01, 1 refuse", 0, 0x00ffff01, 0x00ffff01, no, false},
		{0, 0, 0x00070740, "load 0 was 00070740, 1 refuse", 0, 0x00070740, 0x00070740, no, false},
		{0, 1, 0x000707ff, "load 0 was 000707ff, 1 refuse", 0, 0x000707ff, 0x000707ff, no, false},
		{0, 0xffffffff, 0x00010000, "load 0 was 00010000, 1 refuse", 0, 0x00010000, 0x00010000, no, false},
		{0, 0x00010000, 0x00000100, "load 0 was 00000100, 1 refuse", 0, 0x00000100, 0x00000100, no, false},
		{0, 0x00070700, 0x0000ff00, "load 0 was 0000ff00, 1 refuse", 0, 0x0000ff00, 0x0000ff00, no, false},
		{0, 8, 0x00ff0000, "load 0 was 00ff0000, 1 refuse", 0, 0x00ff0000, 0x00ff0000, no, false},
		{0, 0, 0x00fffe00, "load 0 was 00fffe00, 1 refuse", 0, 0x00fffe00, 0x00fffe00, no, false},
		{0, 1, 0x00feff01, "load 0 was 00feff01, 1 refuse", 0, 0x00feff01, 0x00feff01, no, false},
		{0, 0xffffffff, 0x00080701, "load 0 was 00080701, 1 refuse", 0, 0x00080701, 0x00080701, no, false},
		{0, 0x00010000, 0x01000000, "load 0 was 01000000", 1, 0x01000000, 0x01000000, goes, false},
		{0, 0x00070700, 0x5a070702, "load 0 was 5a070702, 1 refuse", 0, 0x5a070702, 0x5a070702, no, false},
		{0, 8, 0x07000700, "load 0 was 07000700, 1 refuse", 0, 0x07000700, 0x07000700, no, false},
		{0, 0, 0x07080700, "load 0 was 07080700, 1 refuse", 0, 0x07080700, 0x07080700, no, false},
		{0, 1, 0xff00ff00, "load 0 was ff00ff00, 1 refuse", 0, 0xff00ff00, 0xff00ff00, no, false},
		{0, 0xffffffff, 0x80000001, "load 0 was 80000001, 1 refuse", 0, 0x80000001, 0x80000001, no, false},
		{0, 0x00010000, 0xffffffff, "load 0 was ffffffff, 1 refuse", 0, 0xffffffff, 0xffffffff, no, false},
		{1, 0, 0, "cas 0 00000000 00010000 was 00000000, 1 reg write, 1 admit", 1, 0, 0x00010000, yes, false},
		{1, 1, 1, "cas 0 00000001 00010001 was 00000001, 1 reg write, 1 admit", 1, 1, 0x00010001, yes, false},
		{1, 0x00000040, 0x00000040, "cas 0 00000040 00010040 was 00000040, 1 reg write, 1 admit", 1, 0x00000040, 0x00010040, yes, false},
		{1, 0x00ffff00, 0x00ffff00, "cas 0 00ffff00 0100ff00 was 00ffff00, 1 reg write, 1 admit", 1, 0x00ffff00, 0x0100ff00, yes, false},
		{1, 0x00ffff01, 0x00ffff01, "cas 0 00ffff01 0100ff01 was 00ffff01, 1 reg write, 1 admit", 1, 0x00ffff01, 0x0100ff01, yes, false},
		{1, 0x000707ff, 0x000707ff, "cas 0 000707ff 000807ff was 000707ff, 1 reg write, 1 admit", 1, 0x000707ff, 0x000807ff, yes, false},
		{1, 0x0000ffff, 0x0000ffff, "cas 0 0000ffff 0001ffff was 0000ffff, 1 reg write, 1 admit", 1, 0x0000ffff, 0x0001ffff, yes, false},
		{1, 0x5a070702, 0x5a070702, "cas 0 5a070702 5a080702 was 5a070702, 1 reg write, 1 admit", 1, 0x5a070702, 0x5a080702, yes, false},
		{1, 0x00010000, 0x00010000, "cas 0 00010000 00020000 was 00010000, 1 reg write, 1 admit", 1, 0x00010000, 0x00020000, yes, false},
		{1, 0xffffffff, 0xffffffff, "cas 0 ffffffff 0000ffff was ffffffff, 1 reg write, 1 admit", 1, 0xffffffff, 0x0000ffff, yes, false},
		{1, 0, 1, "cas 0 00000000 00010000 was 00000001", 0, 0, 1, goes, false},
		{1, 1, 0, "cas 0 00000001 00010001 was 00000000", 0, 1, 0, goes, false},
		{1, 2, 1, "cas 0 00000002 00010002 was 00000001", 0, 2, 1, goes, false},
		{1, 0, 0x00010000, "cas 0 00000000 00010000 was 00010000", 0, 0, 0x00010000, goes, false},
		{1, 0x00070700, 0x00080700, "cas 0 00070700 00080700 was 00080700", 0, 0x00070700, 0x00080700, goes, false},
		{1, 0x00070700, 0x00080800, "cas 0 00070700 00080700 was 00080800", 0, 0x00070700, 0x00080800, goes, false},
		{1, 0x00070700, 0x00070800, "cas 0 00070700 00080700 was 00070800", 0, 0x00070700, 0x00070800, goes, false},
		{1, 0x00070700, 0x01070700, "cas 0 00070700 00080700 was 01070700", 0, 0x00070700, 0x01070700, goes, false},
		{1, 0x00070700, 0x80070700, "cas 0 00070700 00080700 was 80070700", 0, 0x00070700, 0x80070700, goes, false},
		{1, 0x00070701, 0x00070700, "cas 0 00070701 00080701 was 00070700", 0, 0x00070701, 0x00070700, goes, false},
		{1, 0xffffffff, 0, "cas 0 ffffffff 0000ffff was 00000000", 0, 0xffffffff, 0, goes, false},
		{1, 0, 0xffffffff, "cas 0 00000000 00010000 was ffffffff", 0, 0, 0xffffffff, goes, false},
	})
}

// P16.1: likewise of the way up.
func TestRowsOfTryUpgrade(t *testing.T) {
	allHold(t, api.TryUpgrade, []row{
		{0, 8, 0, "load 0 was 00000000, 1 refuse", 0, 0, 0, no, false},
		{0, 0, 1, "load 0 was 00000001", 1, 1, 1, goes, false},
		{0, 1, 2, "load 0 was 00000002, 1 refuse", 0, 2, 2, no, false},
		{0, 0xffffffff, 0x00000040, "load 0 was 00000040, 1 refuse", 0, 0x00000040, 0x00000040, no, false},
		{0, 0x00010000, 0x000000ff, "load 0 was 000000ff, 1 refuse", 0, 0x000000ff, 0x000000ff, no, false},
		{0, 0x00070700, 0x00ffff00, "load 0 was 00ffff00, 1 refuse", 0, 0x00ffff00, 0x00ffff00, no, false},
		{0, 8, 0x00ffff01, "load 0 was 00ffff01", 1, 0x00ffff01, 0x00ffff01, goes, false},
		{0, 0, 0x00070740, "load 0 was 00070740, 1 refuse", 0, 0x00070740, 0x00070740, no, false},
		{0, 1, 0x000707ff, "load 0 was 000707ff, 1 refuse", 0, 0x000707ff, 0x000707ff, no, false},
		{0, 0xffffffff, 0x00010000, "load 0 was 00010000, 1 refuse", 0, 0x00010000, 0x00010000, no, false},
		{0, 0x00010000, 0x00000100, "load 0 was 00000100, 1 refuse", 0, 0x00000100, 0x00000100, no, false},
		{0, 0x00070700, 0x0000ff00, "load 0 was 0000ff00, 1 refuse", 0, 0x0000ff00, 0x0000ff00, no, false},
		{0, 8, 0x00ff0000, "load 0 was 00ff0000, 1 refuse", 0, 0x00ff0000, 0x00ff0000, no, false},
		{0, 0, 0x00fffe00, "load 0 was 00fffe00, 1 refuse", 0, 0x00fffe00, 0x00fffe00, no, false},
		{0, 1, 0x00feff01, "load 0 was 00feff01, 1 refuse", 0, 0x00feff01, 0x00feff01, no, false},
		{0, 0xffffffff, 0x00080701, "load 0 was 00080701, 1 refuse", 0, 0x00080701, 0x00080701, no, false},
		{0, 0x00010000, 0x01000000, "load 0 was 01000000, 1 refuse", 0, 0x01000000, 0x01000000, no, false},
		{0, 0x00070700, 0x5a070702, "load 0 was 5a070702, 1 refuse", 0, 0x5a070702, 0x5a070702, no, false},
		{0, 8, 0x07000700, "load 0 was 07000700, 1 refuse", 0, 0x07000700, 0x07000700, no, false},
		{0, 0, 0x07080700, "load 0 was 07080700, 1 refuse", 0, 0x07080700, 0x07080700, no, false},
		{0, 1, 0xff00ff00, "load 0 was ff00ff00, 1 refuse", 0, 0xff00ff00, 0xff00ff00, no, false},
		{0, 0xffffffff, 0x80000001, "load 0 was 80000001", 1, 0x80000001, 0x80000001, goes, false},
		{0, 0x00010000, 0xffffffff, "load 0 was ffffffff, 1 refuse", 0, 0xffffffff, 0xffffffff, no, false},
		{1, 0, 0, "cas 0 00000000 0000ffff was 00000000, 1 up", 1, 0, 0x0000ffff, yes, false},
		{1, 1, 1, "cas 0 00000001 00010000 was 00000001, 1 up", 1, 1, 0x00010000, yes, false},
		{1, 0x00000040, 0x00000040, "cas 0 00000040 0001003f was 00000040, 1 up", 1, 0x00000040, 0x0001003f, yes, false},
		{1, 0x00ffff00, 0x00ffff00, "cas 0 00ffff00 0100feff was 00ffff00, 1 up", 1, 0x00ffff00, 0x0100feff, yes, false},
		{1, 0x00ffff01, 0x00ffff01, "cas 0 00ffff01 0100ff00 was 00ffff01, 1 up", 1, 0x00ffff01, 0x0100ff00, yes, false},
		{1, 0x000707ff, 0x000707ff, "cas 0 000707ff 000807fe was 000707ff, 1 up", 1, 0x000707ff, 0x000807fe, yes, false},
		{1, 0x0000ffff, 0x0000ffff, "cas 0 0000ffff 0001fffe was 0000ffff, 1 up", 1, 0x0000ffff, 0x0001fffe, yes, false},
		{1, 0x5a070702, 0x5a070702, "cas 0 5a070702 5a080701 was 5a070702, 1 up", 1, 0x5a070702, 0x5a080701, yes, false},
		{1, 0x00010000, 0x00010000, "cas 0 00010000 0001ffff was 00010000, 1 up", 1, 0x00010000, 0x0001ffff, yes, false},
		{1, 0xffffffff, 0xffffffff, "cas 0 ffffffff 0000fffe was ffffffff, 1 up", 1, 0xffffffff, 0x0000fffe, yes, false},
		{1, 0, 1, "cas 0 00000000 0000ffff was 00000001", 0, 0, 1, goes, false},
		{1, 1, 0, "cas 0 00000001 00010000 was 00000000", 0, 1, 0, goes, false},
		{1, 2, 1, "cas 0 00000002 00010001 was 00000001", 0, 2, 1, goes, false},
		{1, 0, 0x00010000, "cas 0 00000000 0000ffff was 00010000", 0, 0, 0x00010000, goes, false},
		{1, 0x00070700, 0x00080700, "cas 0 00070700 000806ff was 00080700", 0, 0x00070700, 0x00080700, goes, false},
		{1, 0x00070700, 0x00080800, "cas 0 00070700 000806ff was 00080800", 0, 0x00070700, 0x00080800, goes, false},
		{1, 0x00070700, 0x00070800, "cas 0 00070700 000806ff was 00070800", 0, 0x00070700, 0x00070800, goes, false},
		{1, 0x00070700, 0x01070700, "cas 0 00070700 000806ff was 01070700", 0, 0x00070700, 0x01070700, goes, false},
		{1, 0x00070700, 0x80070700, "cas 0 00070700 000806ff was 80070700", 0, 0x00070700, 0x80070700, goes, false},
		{1, 0x00070701, 0x00070700, "cas 0 00070701 00080700 was 00070700", 0, 0x00070701, 0x00070700, goes, false},
		{1, 0xffffffff, 0, "cas 0 ffffffff 0000fffe was 00000000", 0, 0xffffffff, 0, goes, false},
		{1, 0, 0xffffffff, "cas 0 00000000 0000ffff was ffffffff", 0, 0, 0xffffffff, goes, false},
	})
}
