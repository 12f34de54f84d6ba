package tf_test

import (
	"slices"
	"strings"
	"testing"

	"stileman/acc"
	"stileman/api"
	"stileman/cells"
	"stileman/line"
	"stileman/note"
	"stileman/place"
	"stileman/tf"
)

// own are the words of the lock's own cells: users, reads, writes.
type own [3]uint32

// ended is how an operation is behind a step: not ended, or with a result.
const (
	goes = api.RetNone
	no   = api.RetFalse
	yes  = api.RetTrue
)

// none is the cell of no wake-up.
const none = -1

// memory makes a memory of a lock for n tasks with these own words, and all other cells 0.
func memory(n int, w own) *cells.Memory {
	m, _ := cells.New(8 + 4*n)
	for c, x := range w {
		m.Store(c, x)
	}
	return m
}

// ownOf are the words of the lock's own cells.
func ownOf(m *cells.Memory) own {
	return own{m.Load(0), m.Load(1), m.Load(2)}
}

// text is what a step of the run did: its access, and its notes.
func text(r *line.Run) string {
	return strings.Join(append([]string{acc.Text(r.Access)}, note.Rows(r.Notes...)...), ", ")
}

// rest fails the test, if a cell that isn't the lock's own has another word than in l.
func rest(t *testing.T, m *cells.Memory, l []uint32) {
	t.Helper()
	if all := m.All(); !slices.Equal(all[3:], l[3:]) {
		t.Fatalf("the cells behind the own ones are %x, want %x", all[3:], l[3:])
	}
}

// P10.1: each line that doesn't wait, each way out of it: the access, the notes, the words behind it, the frame, and the wake-up, of the second one of two tasks.
func TestRows(t *testing.T) {
	for _, x := range []struct {
		op, line int
		was      own
		a, b     uint32
		step     string
		left     own
		to       int
		aThen    uint32
		bThen    uint32
		ret      int
		wake     int
	}{
		{api.RLock, 0, own{5, 6, 7}, 8, 9, "add 0 00000001 was 00000005, 1 reg read", own{6, 6, 7}, 1, 5, 9, goes, none},
		{api.RLock, 0, own{top, 6, 7}, 8, 9, "add 0 00000001 was ffffffff, 1 reg read", own{0, 6, 7}, 1, top, 9, goes, none},
		{api.RLock, 2, own{5, 6, 7}, 8, 9, "add 1 00000001 was 00000006, 1 admit", own{5, 7, 7}, 2, 8, 9, yes, 1},
		{api.RLock, 2, own{5, top, 7}, 8, 9, "add 1 00000001 was ffffffff, 1 admit", own{5, 0, 7}, 2, 8, 9, yes, 1},
		{api.RUnlock, 0, own{5, 6, 7}, 8, 9, "add 2 00000001 was 00000007, 1 release", own{5, 6, 8}, 0, 8, 9, yes, 2},
		{api.RUnlock, 0, own{5, 6, top}, 8, 9, "add 2 00000001 was ffffffff, 1 release", own{5, 6, 0}, 0, 8, 9, yes, 2},
		{api.Lock, 0, own{5, 6, 7}, 8, 9, "add 0 00000001 was 00000005, 1 reg write", own{6, 6, 7}, 1, 5, 9, goes, none},
		{api.Lock, 0, own{half - 1, 6, 7}, 8, 9, "add 0 00000001 was 7fffffff, 1 reg write", own{half, 6, 7}, 1, half - 1, 9, goes, none},
		{api.Unlock, 0, own{5, 6, 7}, 8, 9, "add 1 00000001 was 00000006, 1 leave", own{5, 7, 7}, 1, 8, 9, goes, 1},
		{api.Unlock, 0, own{5, top, 7}, 8, 9, "add 1 00000001 was ffffffff, 1 leave", own{5, 0, 7}, 1, 8, 9, goes, 1},
		{api.Unlock, 1, own{5, 6, 7}, 8, 9, "add 2 00000001 was 00000007, 1 pass", own{5, 6, 8}, 1, 8, 9, yes, 2},
		{api.Unlock, 1, own{5, 6, top}, 8, 9, "add 2 00000001 was ffffffff, 1 pass", own{5, 6, 0}, 1, 8, 9, yes, 2},
		{api.TryRLock, 0, own{5, 6, 7}, 8, 9, "load 0 was 00000005", own{5, 6, 7}, 1, 5, 9, goes, none},
		{api.TryRLock, 1, own{5, 6, 7}, 6, 9, "load 1 was 00000006", own{5, 6, 7}, 2, 6, 6, goes, none},
		{api.TryRLock, 1, own{5, 6, 7}, 7, 9, "load 1 was 00000006, 1 refuse", own{5, 6, 7}, 1, 7, 6, no, none},
		{api.TryRLock, 1, own{5, 6, 7}, 8, 9, "load 1 was 00000006, 1 refuse", own{5, 6, 7}, 1, 8, 6, no, none},
		{api.TryRLock, 1, own{5, 6, 7}, 5, 9, "load 1 was 00000006", own{5, 6, 7}, 0, 5, 6, goes, none},
		{api.TryRLock, 1, own{5, top, 7}, 0, 9, "load 1 was ffffffff, 1 refuse", own{5, top, 7}, 1, 0, top, no, none},
		{api.TryRLock, 1, own{5, 0, 7}, top, 9, "load 1 was 00000000", own{5, 0, 7}, 0, top, 0, goes, none},
		{api.TryRLock, 1, own{5, 1, 7}, half, 9, "load 1 was 00000001, 1 refuse", own{5, 1, 7}, 1, half, 1, no, none},
		{api.TryRLock, 1, own{5, 0, 7}, half, 9, "load 1 was 00000000", own{5, 0, 7}, 0, half, 0, goes, none},
		{api.TryRLock, 2, own{5, 6, 7}, 5, 9, "cas 0 00000005 00000006 was 00000005, 1 reg read", own{6, 6, 7}, 3, 5, 9, goes, none},
		{api.TryRLock, 2, own{top, 6, 7}, top, 9, "cas 0 ffffffff 00000000 was ffffffff, 1 reg read", own{0, 6, 7}, 3, top, 9, goes, none},
		{api.TryRLock, 2, own{5, 6, 7}, 6, 9, "cas 0 00000006 00000007 was 00000005", own{5, 6, 7}, 0, 6, 9, goes, none},
		{api.TryRLock, 3, own{5, 6, 7}, 8, 9, "add 1 00000001 was 00000006, 1 admit", own{5, 7, 7}, 3, 8, 9, yes, 1},
		{api.TryLock, 0, own{5, 6, 7}, 8, 9, "load 0 was 00000005", own{5, 6, 7}, 1, 5, 9, goes, none},
		{api.TryLock, 1, own{5, 6, 7}, 7, 9, "load 2 was 00000007", own{5, 6, 7}, 2, 7, 7, goes, none},
		{api.TryLock, 1, own{5, 6, 7}, 8, 9, "load 2 was 00000007, 1 refuse", own{5, 6, 7}, 1, 8, 7, no, none},
		{api.TryLock, 1, own{5, 6, 7}, 9, 9, "load 2 was 00000007, 1 refuse", own{5, 6, 7}, 1, 9, 7, no, none},
		{api.TryLock, 1, own{5, 6, 7}, 6, 9, "load 2 was 00000007", own{5, 6, 7}, 0, 6, 7, goes, none},
		{api.TryLock, 1, own{5, 6, top}, 0, 9, "load 2 was ffffffff, 1 refuse", own{5, 6, top}, 1, 0, top, no, none},
		{api.TryLock, 1, own{5, 6, 0}, top, 9, "load 2 was 00000000", own{5, 6, 0}, 0, top, 0, goes, none},
		{api.TryLock, 2, own{5, 6, 7}, 5, 9, "cas 0 00000005 00000006 was 00000005, 1 reg write, 1 admit", own{6, 6, 7}, 2, 5, 9, yes, none},
		{api.TryLock, 2, own{top, 6, 7}, top, 9, "cas 0 ffffffff 00000000 was ffffffff, 1 reg write, 1 admit", own{0, 6, 7}, 2, top, 9, yes, none},
		{api.TryLock, 2, own{5, 6, 7}, 4, 9, "cas 0 00000004 00000005 was 00000005", own{5, 6, 7}, 0, 4, 9, goes, none},
		{api.TryUpgrade, 0, own{5, 6, 7}, 8, 9, "load 0 was 00000005", own{5, 6, 7}, 1, 5, 9, goes, none},
		{api.TryUpgrade, 1, own{5, 6, 7}, 8, 9, "load 2 was 00000007", own{5, 6, 7}, 2, 8, 7, goes, none},
		{api.TryUpgrade, 1, own{5, 6, 7}, 9, 9, "load 2 was 00000007, 1 refuse", own{5, 6, 7}, 1, 9, 7, no, none},
		{api.TryUpgrade, 1, own{5, 6, 7}, 10, 9, "load 2 was 00000007, 1 refuse", own{5, 6, 7}, 1, 10, 7, no, none},
		{api.TryUpgrade, 1, own{5, 6, 7}, 7, 9, "load 2 was 00000007", own{5, 6, 7}, 0, 7, 7, goes, none},
		{api.TryUpgrade, 1, own{5, 6, 7}, 6, 9, "load 2 was 00000007", own{5, 6, 7}, 0, 6, 7, goes, none},
		{api.TryUpgrade, 1, own{5, 6, top}, 0, 9, "load 2 was ffffffff", own{5, 6, top}, 2, 0, top, goes, none},
		{api.TryUpgrade, 1, own{5, 6, top}, 1, 9, "load 2 was ffffffff, 1 refuse", own{5, 6, top}, 1, 1, top, no, none},
		{api.TryUpgrade, 2, own{5, 6, 7}, 5, 9, "cas 0 00000005 00000006 was 00000005, 1 up", own{6, 6, 7}, 3, 5, 9, goes, none},
		{api.TryUpgrade, 2, own{top, 6, 7}, top, 9, "cas 0 ffffffff 00000000 was ffffffff, 1 up", own{0, 6, 7}, 3, top, 9, goes, none},
		{api.TryUpgrade, 2, own{5, 6, 7}, 0, 9, "cas 0 00000000 00000001 was 00000005", own{5, 6, 7}, 0, 0, 9, goes, none},
		{api.TryUpgrade, 3, own{5, 6, 7}, 8, 9, "add 2 00000001 was 00000007", own{5, 6, 8}, 3, 8, 9, yes, none},
		{api.TryUpgrade, 3, own{5, 6, top}, 8, 9, "add 2 00000001 was ffffffff", own{5, 6, 0}, 3, 8, 9, yes, none},
		{api.Downgrade, 0, own{5, 6, 7}, 8, 9, "add 1 00000001 was 00000006, 1 down", own{5, 7, 7}, 0, 8, 9, yes, 1},
		{api.Downgrade, 0, own{5, top, 7}, 8, 9, "add 1 00000001 was ffffffff, 1 down", own{5, 0, 7}, 0, 8, 9, yes, 1},
	} {
		for _, mode := range modes() {
			m := memory(2, x.was)
			r := line.Run{Mem: m, Map: place.Map{N: 2}, Mode: mode, Task: 1}
			r.Frame = api.Frame{Op: x.op, Line: x.line, A: x.a, B: x.b}
			over := r.Step(tf.Lines)
			want := api.Frame{Op: x.op, Line: x.to, A: x.aThen, B: x.bThen, Ret: x.ret}
			if mode == api.Parked && x.wake != none {
				want.Wake = api.Wake{On: true, Cell: x.wake}
			}
			if text(&r) != x.step || r.Frame != want || ownOf(m) != x.left {
				t.Errorf("%+v in the mode %d: %s, %+v, %v", x, mode, text(&r), r.Frame, ownOf(m))
			}
			if over != (x.ret != goes && !want.Wake.On) {
				t.Errorf("%+v in the mode %d: over %v", x, mode, over)
			}
			rest(t, m, make([]uint32, 16))
		}
	}
}

// P10.1: the two lines that wait, from each stage, with the turn there and not: the second one of two tasks has its watch in the cell 13, and its permit in the cell 15.
func TestWaits(t *testing.T) {
	for _, x := range []struct {
		mode, stage           int
		there                 bool // whether it is the ticket's turn
		permit                uint32
		step                  string // of a reader; for a writer the cell is another one
		to                    int    // the stage behind it
		seen, done            bool
		watchThen, permitThen uint32
	}{
		{api.Spin, 0, true, 1, "load 1 was 00000005", 0, true, true, 9, 1},
		{api.Spin, 0, false, 1, "load 1 was 00000004", 0, false, false, 9, 1},
		{api.Spin, 1, true, 1, "load 1 was 00000005", 0, true, true, 9, 1},
		{api.Spin, 3, false, 1, "load 1 was 00000004", 0, false, false, 9, 1},
		{api.Spin, 4, false, 1, "load 1 was 00000004", 0, false, false, 9, 1},
		{0, 4, true, 1, "load 1 was 00000005", 0, true, true, 9, 1},
		{3, 4, false, 1, "load 1 was 00000004", 0, false, false, 9, 1},
		{api.Parked, 0, true, 1, "load 1 was 00000005", 0, true, true, 9, 1},
		{api.Parked, 0, false, 1, "load 1 was 00000004", 1, false, false, 9, 1},
		{api.Parked, 1, true, 1, "store 13 00000002 was 00000009", 2, false, false, 2, 1},
		{api.Parked, 1, false, 0, "store 13 00000002 was 00000009", 2, false, false, 2, 0},
		{api.Parked, 2, true, 1, "load 1 was 00000005", 4, true, false, 9, 1},
		{api.Parked, 2, false, 1, "load 1 was 00000004", 3, false, false, 9, 1},
		{api.Parked, 3, true, 1, "swap 15 00000000 was 00000001", 2, false, false, 9, 0},
		{api.Parked, 3, false, top, "swap 15 00000000 was ffffffff", 2, false, false, 9, 0},
		{api.Parked, 3, true, 0, "", 3, false, false, 9, 0},
		{api.Parked, 4, true, 1, "store 13 00000000 was 00000009", 0, false, true, 0, 1},
		{api.Parked, 4, false, 1, "store 13 00000000 was 00000009", 0, false, true, 0, 1},
		{api.Parked, 5, true, 1, "load 1 was 00000005", 0, true, true, 9, 1},
		{api.Parked, -1, false, 1, "load 1 was 00000004", 1, false, false, 9, 1},
	} {
		for _, write := range []bool{false, true} {
			w, step := own{5, 4, 5}, x.step
			if write {
				w = own{4, 5, 4}
				step = strings.Replace(step, "load 1", "load 2", 1)
				step = strings.Replace(step, "13 00000002", "13 00000003", 1)
			}
			if x.there {
				w[1], w[2] = w[2], w[1]
			}
			m := memory(2, w)
			m.Store(13, 9)
			m.Store(15, x.permit)
			l := m.All()
			r := line.Run{Mem: m, Map: place.Map{N: 2}, Mode: x.mode, Task: 1}
			r.Frame = api.Frame{Op: api.RLock, Line: 1, A: 5, B: 6, Wait: api.Wait{Stage: x.stage}}
			want := api.Frame{Op: api.RLock, Line: 1, A: 5, B: 6, Wait: api.Wait{Stage: x.to}}
			if write {
				r.Frame.Op, want.Op = api.Lock, api.Lock
				if x.seen {
					step += ", 1 admit"
				}
				if x.done {
					want.Ret = yes
				}
			} else if x.done {
				want.Line = 2
			}
			over := r.Step(tf.Lines)
			if text(&r) != step || r.Frame != want || over != (want.Ret != goes) || ownOf(m) != w {
				t.Errorf("%+v, of a writer %v: %s, %+v, %v, %v", x, write, text(&r), r.Frame, over, ownOf(m))
			}
			l[13], l[15] = x.watchThen, x.permitThen
			if write && l[13] == 2 {
				l[13] = 3
			}
			rest(t, m, l)
		}
	}
}

// P10.1: a writer that has begun to wait is admitted by the step that sees its turn, and once alone, though it ends later; a reader is admitted behind its waiting.
func TestAdmittedOnce(t *testing.T) {
	for _, x := range []struct {
		op    int
		steps []string
	}{
		{api.Lock, []string{
			"load 2 was 00000004", "store 13 00000003 was 00000000", "load 2 was 00000004", "", "",
			"swap 15 00000000 was 00000001", "load 2 was 00000004", "",
			"swap 15 00000000 was 00000001", "load 2 was 00000005, 1 admit", "store 13 00000000 was 00000003",
		}},
		{api.RLock, []string{
			"load 1 was 00000004", "store 13 00000002 was 00000000", "load 1 was 00000004", "", "",
			"swap 15 00000000 was 00000001", "load 1 was 00000004", "",
			"swap 15 00000000 was 00000001", "load 1 was 00000005", "store 13 00000000 was 00000002",
			"add 1 00000001 was 00000005, 1 admit", "load 12 was 00000000", "load 13 was 00000000",
		}},
	} {
		m := memory(2, own{6, 4, 4})
		r := line.Run{Mem: m, Map: place.Map{N: 2}, Mode: api.Parked, Task: 1}
		r.Frame = api.Frame{Op: x.op, Line: 1, A: 5}
		for i, want := range x.steps {
			switch i {
			case 5: // a permit of somebody who didn't make it the turn
				m.Store(15, 1)
			case 8:
				m.Store(1, 5)
				m.Store(2, 5)
				m.Store(15, 1)
			}
			over := r.Step(tf.Lines)
			if text(&r) != want || over != (i == len(x.steps)-1) {
				t.Fatalf("the operation %d, the step %d: %s, %v, %+v", x.op, i, text(&r), over, r.Frame)
			}
		}
	}
}
