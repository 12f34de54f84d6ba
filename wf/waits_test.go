package wf_test

import (
	"slices"
	"strconv"
	"strings"
	"testing"

	"stileman/api"
	"stileman/cells"
	"stileman/line"
	"stileman/place"
	"stileman/wf"
)

// none is the line that follows on an end.
const none = -2

// waiting is a line that waits for the word: what A is ahead of it; words of which it is to wait no more, and words of which it waits on; what it notes when it sees one of the first, and whether that is A then; and where it goes when it is done: to a line, or, at none, to its end.
type waiting struct {
	op, line   int
	kept       uint32
	there, not []uint32
	note       string
	keeps      bool
	to         int
}

// waitings are all lines that wait.
func waitings() (l []waiting) {
	for _, kept := range []uint32{0x00010000, 0, 0x0007ff01, 0x00ffff00, top} {
		l = append(l, waiting{
			api.RLock, 2, kept,
			[]uint32{0x00000000, 0x00010100, 0x00070701, 0x00ffff00, 0x0007073f, 0x000707ff, 0x01000000, 0x5afefe01, 0x80ffff02, top},
			[]uint32{0x00010000, 0x00010001, 0x00080700, 0x0000ff00, 0x00fffe40, 0x00000100, 0x00060700, 0x01000100, 0xff00ff00, 0x07000700},
			"", true, 1,
		})
	}
	return append(l,
		writerWaits(0x00000000, []uint32{0x00010000, 0x00ff0000, 0, 0x01000000, 0xff050000}, []uint32{0x00010001, 0x00010100, 0x000000ff, 0x0001ff00, 0x01000001}),
		writerWaits(0x01070502, []uint32{0x00080700, 0x000a0700, 0x00000700, 0x5a080700, 0xffff0700}, []uint32{0x00080701, 0x00080600, 0x00080800, 0x00070502, 0x00080500, 0x07080000}),
		writerWaits(0xfffffe01, []uint32{0x0000ff00, 0x0100ff00, 0x0004ff00, 0x00ffff00, 0xff00ff00}, []uint32{0x00ffff01, 0x0000fe00, 0x00000000, 0xff000000, top, 0x0000ffff, 0x00ff0000}),
		writerWaits(0x00800000, []uint32{0x00818000, 0x80808000}, []uint32{0x00818001, 0x00810000, 0x80800000, 0x0081ff00, 0x00818080}),
	)
}

// writerWaits is the line of a writer that has drawn its ticket where the word was kept.
func writerWaits(kept uint32, there, not []uint32) waiting {
	return waiting{api.Lock, 1, kept, there, not, "1 admit", false, none}
}

// stride is a step of waiting from a stage; %v stands for the word. The task is the second one of three: its watch is the cell 15, its permit the cell 18.
type stride struct {
	mode, stage           int
	there                 bool // whether the word is one of which it waits no more
	permit                uint32
	step                  string
	to                    int // the stage behind it
	seen, done            bool
	watchThen, permitThen uint32
}

// strides are the steps from all stages; the task's watch is 9 ahead of each.
func strides() (l []stride) {
	look := "load 0 was %v"
	for _, mode := range spins() {
		for _, stage := range stages() {
			l = append(l,
				stride{mode, stage, true, 1, look, 0, true, true, 9, 1},
				stride{mode, stage, false, 1, look, 0, false, false, 9, 1})
		}
	}
	for _, stage := range []int{0, 5, -1, 1<<32 + 3} {
		l = append(l,
			stride{api.Parked, stage, true, 1, look, 0, true, true, 9, 1},
			stride{api.Parked, stage, false, 1, look, 1, false, false, 9, 1})
	}
	return append(l,
		stride{api.Parked, 1, true, 1, "store 15 00000001 was 00000009", 2, false, false, 1, 1},
		stride{api.Parked, 1, false, 0, "store 15 00000001 was 00000009", 2, false, false, 1, 0},
		stride{api.Parked, 2, true, 1, look, 4, true, false, 9, 1},
		stride{api.Parked, 2, false, 1, look, 3, false, false, 9, 1},
		stride{api.Parked, 3, true, 1, "swap 18 00000000 was 00000001", 2, false, false, 9, 0},
		stride{api.Parked, 3, false, top, "swap 18 00000000 was ffffffff", 2, false, false, 9, 0},
		stride{api.Parked, 3, true, 0, "", 3, false, false, 9, 0},
		stride{api.Parked, 4, true, 1, "store 15 00000000 was 00000009", 0, false, true, 0, 1},
		stride{api.Parked, 4, false, 1, "store 15 00000000 was 00000009", 0, false, true, 0, 1},
	)
}

// hex is v with eight digits.
func hex(v uint32) string {
	s := strconv.FormatUint(uint64(v), 16)
	return strings.Repeat("0", 8-len(s)) + s
}

// holds does the step from the stage, with v in the word.
func (x waiting) holds(t *testing.T, s stride, v uint32) {
	t.Helper()
	l := marked(20, v)
	l[15], l[18] = 9, s.permit
	m, _ := cells.From(l...)
	r := line.Run{Mem: m, Map: place.Map{N: 3}, Mode: s.mode, Task: 1}
	r.Frame = api.Frame{Op: x.op, Line: x.line, A: x.kept, B: 5, Wait: api.Wait{Stage: s.stage}}
	want := api.Frame{Op: x.op, Line: x.line, A: x.kept, B: 5, Wait: api.Wait{Stage: s.to}}
	if s.seen && x.keeps {
		want.A = v
	}
	if s.done && x.to == none {
		want.Ret = yes
	} else if s.done {
		want.Line = x.to
	}
	step := strings.Replace(s.step, "%v", hex(v), 1)
	if s.seen && x.note != "" {
		step += ", " + x.note
	}
	over := r.Step(wf.Lines)
	if text(&r) != step || r.Frame != want || over != (want.Ret != goes) {
		t.Errorf("%+v, of %+v, with %x: %s, %+v, %v", x, s, v, text(&r), r.Frame, over)
	}
	l[15], l[18] = s.watchThen, s.permitThen
	if all := m.All(); !slices.Equal(all, l) {
		t.Errorf("%+v, of %+v, with %x: the cells are %x, want %x", x, s, v, all, l)
	}
}

// P16.1: the lines that wait, from each stage, with what is waited for there and not: a reader keeps the word that it saw then, and no other one; a writer keeps none.
func TestWaits(t *testing.T) {
	for _, x := range waitings() {
		for _, s := range strides() {
			l := x.not
			if s.there {
				l = x.there
			}
			for _, v := range l {
				x.holds(t, s, v)
			}
		}
	}
}

// P16.1: who is parked, and waits to write, is admitted by the step that sees that it may, and once alone, and is through by the step that takes its watch back; a reader keeps the word by the step that sees that no writer has a ticket, though another one draws one ahead of the next step, and goes on by that one; and a permit that brings nothing lets it look again.
func TestParked(t *testing.T) {
	for _, x := range waitings() {
		seen := "load 0 was %v"
		if x.note != "" {
			seen += ", " + x.note
		}
		steps := []string{
			"load 0 was %n", "store 15 00000001 was 00000000", "load 0 was %n", "", "",
			"swap 18 00000000 was 00000001", "load 0 was %n", "", "swap 18 00000000 was 00000001",
			seen, "store 15 00000000 was 00000001",
		}
		v, not := x.there[1], x.not[0]
		names := strings.NewReplacer("%v", hex(v), "%n", hex(not))
		m, _ := cells.New(20)
		m.Store(0, not)
		r := line.Run{Mem: m, Map: place.Map{N: 3}, Mode: api.Parked, Task: 1, Frame: api.Frame{Op: x.op, Line: x.line, A: x.kept, B: 8}}
		for i, want := range steps {
			switch i {
			case 5: // a permit of somebody who didn't bring what is waited for
				m.Store(18, 1)
			case 8:
				m.Store(0, v)
				m.Store(18, 1)
			case 10:
				m.Store(0, v+w)
			}
			stuck := line.Stuck(r)
			over := r.Step(wf.Lines)
			ends := i == len(steps)-1 && x.to == none
			if want = names.Replace(want); text(&r) != want || over != ends || stuck != (want == "") {
				t.Fatalf("%+v, the step %d: %s, %v, %v, %+v, want %s", x, i, text(&r), over, stuck, r.Frame, want)
			}
			if kept := i >= 9 && x.keeps; !kept && r.Frame.A != x.kept || kept && r.Frame.A != v {
				t.Fatalf("%+v, the step %d: A is %x", x, i, r.Frame.A)
			}
		}
		want := api.Frame{Op: x.op, Line: x.line, A: r.Frame.A, B: 8, Ret: yes}
		if x.to != none {
			want.Line, want.Ret = x.to, goes
		}
		if r.Frame != want {
			t.Errorf("%+v: %+v, want %+v", x, r.Frame, want)
		}
	}
}
