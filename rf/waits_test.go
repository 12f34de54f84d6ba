package rf_test

import (
	"slices"
	"strconv"
	"strings"
	"testing"

	"stileman/api"
	"stileman/cells"
	"stileman/line"
	"stileman/place"
	"stileman/rf"
)

// none is the line that follows on an end.
const none = -2

// waiting is a line that waits for the word: words of which it is to wait no more, and words of which it waits on; what it notes when it sees one of the first, and where it goes when it is done: to a line, or, at none, to its end.
type waiting struct {
	op, line   int
	there, not []uint32
	note       string
	to         int
}

// waitings are all lines that wait.
func waitings() []waiting {
	return []waiting{
		{
			api.RLock, 1,
			[]uint32{1, 0, 2, w - 1, 2 * w, 2*w + 1, 2*w + w - 1, half, half + 1, 0xfffeffff, 0xfffe0000},
			[]uint32{w + 1, w, 2*w - 1, 3 * w, 3*w + 1, half + w, 0xffff0000, top},
			"1 admit", none,
		},
		{
			api.Lock, 2,
			[]uint32{0},
			[]uint32{1, 2, 64, w - 1, w, w + 1, 2*w - 1, 2 * w, half, 0xffff0000, top},
			"", 1,
		},
	}
}

// stride is a step of waiting from a stage; %v stands for the word. The task is the second one of three: its watch is the cell 15, its permit the cell 18.
type stride struct {
	mode, stage           int
	there                 bool // whether the word is one of which it waits no more
	permit                uint32
	step                  string
	to                    int // the stage behind it
	seen, done            bool
	watchThen, permitThen uint32
}

// strides are the steps from all stages; the task's watch is 9 ahead of each.
func strides() (l []stride) {
	look := "load 0 was %v"
	for _, mode := range spins() {
		for _, stage := range stages() {
			l = append(l,
				stride{mode, stage, true, 1, look, 0, true, true, 9, 1},
				stride{mode, stage, false, 1, look, 0, false, false, 9, 1})
		}
	}
	for _, stage := range []int{0, 5, -1, 1<<32 + 3} {
		l = append(l,
			stride{api.Parked, stage, true, 1, look, 0, true, true, 9, 1},
			stride{api.Parked, stage, false, 1, look, 1, false, false, 9, 1})
	}
	return append(l,
		stride{api.Parked, 1, true, 1, "store 15 00000001 was 00000009", 2, false, false, 1, 1},
		stride{api.Parked, 1, false, 0, "store 15 00000001 was 00000009", 2, false, false, 1, 0},
		stride{api.Parked, 2, true, 1, look, 4, true, false, 9, 1},
		stride{api.Parked, 2, false, 1, look, 3, false, false, 9, 1},
		stride{api.Parked, 3, true, 1, "swap 18 00000000 was 00000001", 2, false, false, 9, 0},
		stride{api.Parked, 3, false, top, "swap 18 00000000 was ffffffff", 2, false, false, 9, 0},
		stride{api.Parked, 3, true, 0, "", 3, false, false, 9, 0},
		stride{api.Parked, 4, true, 1, "store 15 00000000 was 00000009", 0, false, true, 0, 1},
		stride{api.Parked, 4, false, 1, "store 15 00000000 was 00000009", 0, false, true, 0, 1},
	)
}

// hex is v with eight digits.
func hex(v uint32) string {
	s := strconv.FormatUint(uint64(v), 16)
	return strings.Repeat("0", 8-len(s)) + s
}

// holds does the step from the stage, with v in the word and kept in A.
func (x waiting) holds(t *testing.T, s stride, v, kept uint32) {
	t.Helper()
	l := marked(20, v)
	l[15], l[18] = 9, s.permit
	m, _ := cells.From(l...)
	r := line.Run{Mem: m, Map: place.Map{N: 3}, Mode: s.mode, Task: 1}
	r.Frame = api.Frame{Op: x.op, Line: x.line, A: kept, B: 5, Wait: api.Wait{Stage: s.stage}}
	want := api.Frame{Op: x.op, Line: x.line, A: kept, B: 5, Wait: api.Wait{Stage: s.to}}
	if s.done && x.to == none {
		want.Ret = yes
	} else if s.done {
		want.Line = x.to
	}
	step := strings.Replace(s.step, "%v", hex(v), 1)
	if s.seen && x.note != "" {
		step += ", " + x.note
	}
	over := r.Step(rf.Lines)
	if text(&r) != step || r.Frame != want || over != (want.Ret != goes) {
		t.Errorf("%+v, of %+v, with %x: %s, %+v, %v", x, s, v, text(&r), r.Frame, over)
	}
	l[15], l[18] = s.watchThen, s.permitThen
	if all := m.All(); !slices.Equal(all, l) {
		t.Errorf("%+v, of %+v, with %x: the cells are %x, want %x", x, s, v, all, l)
	}
}

// P15.1: the lines that wait, from each stage, with what is waited for there and not; A stays, whatever the word is.
func TestWaits(t *testing.T) {
	for _, x := range waitings() {
		for _, s := range strides() {
			l := x.not
			if s.there {
				l = x.there
			}
			for _, v := range l {
				for _, kept := range []uint32{0, 1, w, top} {
					x.holds(t, s, v, kept)
				}
			}
		}
	}
}

// P15.1: a reader that is parked is admitted by the step that sees that no writer is in, and once alone; it is through, and a writer goes on, by the step that takes its watch back; and a permit that brings nothing lets it look again.
func TestParked(t *testing.T) {
	for _, x := range waitings() {
		seen := "load 0 was %v"
		if x.note != "" {
			seen += ", " + x.note
		}
		steps := []string{
			"load 0 was %n", "store 15 00000001 was 00000000", "load 0 was %n", "", "",
			"swap 18 00000000 was 00000001", "load 0 was %n", "", "swap 18 00000000 was 00000001",
			seen, "store 15 00000000 was 00000001",
		}
		v, not := x.there[0], x.not[0]
		names := strings.NewReplacer("%v", hex(v), "%n", hex(not))
		m, _ := cells.New(20)
		m.Store(0, not)
		r := line.Run{Mem: m, Map: place.Map{N: 3}, Mode: api.Parked, Task: 1, Frame: api.Frame{Op: x.op, Line: x.line, A: 7, B: 8}}
		for i, want := range steps {
			switch i {
			case 5: // a permit of somebody who didn't bring what is waited for
				m.Store(18, 1)
			case 8:
				m.Store(0, v)
				m.Store(18, 1)
			}
			stuck := line.Stuck(r)
			over := r.Step(rf.Lines)
			ends := i == len(steps)-1 && x.to == none
			if want = names.Replace(want); text(&r) != want || over != ends || stuck != (want == "") {
				t.Fatalf("%+v, the step %d: %s, %v, %v, %+v, want %s", x, i, text(&r), over, stuck, r.Frame, want)
			}
		}
		want := api.Frame{Op: x.op, Line: x.line, A: 7, B: 8, Ret: yes}
		if x.to != none {
			want.Line, want.Ret = x.to, goes
		}
		if r.Frame != want {
			t.Errorf("%+v: %+v, want %+v", x, r.Frame, want)
		}
	}
}
