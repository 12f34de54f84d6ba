package pq_test

import (
	"slices"
	"strconv"
	"strings"
	"testing"

	"stileman/api"
	"stileman/line"
	"stileman/place"
	"stileman/pq"
)

// waiting is a line that waits: for which cell, of the task 1 of three, with which word in A; words of which it is to wait no more, and words of which it waits on; whether A is the word then, what it notes when it sees one, and where it goes when it is done: to a line, or, at none, to its end.
type waiting struct {
	op, line, cell int
	a              uint32
	there, not     []uint32
	keeps          bool
	note           string
	to             int
}

// waitings are all lines that wait.
func waitings() (l []waiting) {
	zero, others := []uint32{0}, []uint32{1, 2, 3, half, top}
	l = []waiting{
		{api.RLock, 1, 0, 0x502, []uint32{0x500, 0x503, 0x501, 0x603, 0, 1, 3, 0xffffff00}, []uint32{0x502, 0x602, 2, 0xffffff02, 6}, false, "1 admit", none},
		{api.RLock, 1, 0, 0x503, []uint32{0x500, 0x502, 0x501, 0x602, 0, 1, 2, 0xffffff00}, []uint32{0x503, 0x603, 3, 0xffffff03, top}, false, "1 admit", none},
		{api.RLock, 1, 0, top, []uint32{0, 1, 2, top - 1, top - 3}, []uint32{top, 3, top - 4}, false, "1 admit", none},
		{api.Lock, 4, 12, 5, zero, others, false, "", 5},
		{api.Lock, 4, 12, 0, zero, others, false, "", 5},
		{api.TryUpgrade, 6, 1, 0x500, []uint32{0x400}, []uint32{0x500, 0x300, 0x402, 0, 0x80000400}, false, "1 up", 7},
		{api.TryUpgrade, 6, 1, 0, []uint32{0xffffff00}, []uint32{0, 0xfffffe00, top, 0x7fffff00, 256}, false, "1 up", 7},
	}
	for op, n := range map[int]int{api.Lock: 7, api.TryLock: 6} {
		l = append(l,
			waiting{op, n, 1, 0x500, []uint32{0x500}, []uint32{0x400, 0x600, 0x502, 0, 0x80000500}, false, "1 admit", none},
			waiting{op, n, 1, 0, zero, []uint32{0xffffff00, 0x100, 1, half, top}, false, "1 admit", none},
			waiting{op, n, 1, 0xffffff00, []uint32{0xffffff00}, []uint32{0xfffffe00, 0, top}, false, "1 admit", none})
	}
	for _, g := range givers() {
		for _, a := range []uint32{0, 1, 4, top} {
			l = append(l, waiting{g.op, g.from + 2, 9, a, others, zero, true, "", g.from + 3})
		}
	}
	return l
}

// stride is a step of waiting from a stage; %c stands for the cell that is waited for, %v for its word, %w for the watch's. The task's watch is the cell 15, its permit the cell 18.
type stride struct {
	mode, stage           int
	there                 bool // whether the word is one of which it waits no more
	permit                uint32
	step                  string
	to                    int // the stage behind it
	seen, done            bool
	watchThen, permitThen uint32
}

// named stands for the word of the watch that names the cell.
const named = 77

// strides are the steps from all stages; the task's watch is 9 ahead of each.
func strides() (l []stride) {
	look := "load %c was %v"
	for _, mode := range spins() {
		for _, stage := range stages() {
			l = append(l,
				stride{mode, stage, true, 1, look, 0, true, true, 9, 1},
				stride{mode, stage, false, 1, look, 0, false, false, 9, 1})
		}
	}
	for _, stage := range []int{0, 5, -1, 1<<32 + 3} {
		l = append(l,
			stride{api.Parked, stage, true, 1, look, 0, true, true, 9, 1},
			stride{api.Parked, stage, false, 1, look, 1, false, false, 9, 1})
	}
	return append(l,
		stride{api.Parked, 1, true, 1, "store 15 %w was 00000009", 2, false, false, named, 1},
		stride{api.Parked, 1, false, 0, "store 15 %w was 00000009", 2, false, false, named, 0},
		stride{api.Parked, 2, true, 1, look, 4, true, false, 9, 1},
		stride{api.Parked, 2, false, 1, look, 3, false, false, 9, 1},
		stride{api.Parked, 3, true, 1, "swap 18 00000000 was 00000001", 2, false, false, 9, 0},
		stride{api.Parked, 3, false, top, "swap 18 00000000 was ffffffff", 2, false, false, 9, 0},
		stride{api.Parked, 3, true, 0, "", 3, false, false, 9, 0},
		stride{api.Parked, 4, true, 1, "store 15 00000000 was 00000009", 0, false, true, 0, 1},
		stride{api.Parked, 4, false, 1, "store 15 00000000 was 00000009", 0, false, true, 0, 1},
	)
}

// hex is v with eight digits.
func hex(v uint32) string {
	s := strconv.FormatUint(uint64(v), 16)
	return strings.Repeat("0", 8-len(s)) + s
}

// text is the text of the stride's step, of that line, with that word in the cell.
func (x stride) text(w waiting, v uint32) string {
	s := strings.NewReplacer("%c", strconv.Itoa(w.cell), "%v", hex(v), "%w", hex(uint32(w.cell)+1)).Replace(x.step)
	if x.seen && w.note != "" {
		s += ", " + w.note
	}
	return s
}

// holds does the step from the stage, with v in the cell.
func (w waiting) holds(t *testing.T, x stride, v uint32) {
	t.Helper()
	m := memory(3, set{0: 0x1111, 1: 0x2222, 2: 6, 3: 0x3333, 15: 9, 18: x.permit})
	m.Store(w.cell, v)
	l := m.All()
	r := line.Run{Mem: m, Map: place.Map{N: 3}, Mode: x.mode, Task: 1}
	r.Frame = api.Frame{Op: w.op, Line: w.line, A: w.a, B: 5, Wait: api.Wait{Stage: x.stage}}
	want := api.Frame{Op: w.op, Line: w.line, A: w.a, B: 5, Wait: api.Wait{Stage: x.to}}
	if w.keeps && x.seen {
		want.A = v
	}
	if x.done && w.to == none {
		want.Ret = yes
	} else if x.done {
		want.Line = w.to
	}
	over := r.Step(pq.Lines)
	if text(&r) != x.text(w, v) || r.Frame != want || over != (want.Ret != goes) {
		t.Errorf("%+v, of %+v, with %x: %s, %+v, %v", w, x, v, text(&r), r.Frame, over)
	}
	l[15], l[18] = x.watchThen, x.permitThen
	if x.watchThen == named {
		l[15] = uint32(w.cell) + 1
	}
	if all := m.All(); !slices.Equal(all, l) {
		t.Errorf("%+v, of %+v, with %x: the cells are %x, want %x", w, x, v, all, l)
	}
}

// P14.1: the lines that wait, from each stage, with what is waited for there and not.
func TestWaits(t *testing.T) {
	for _, w := range waitings() {
		for _, x := range strides() {
			l := w.not
			if x.there {
				l = w.there
			}
			for _, v := range l {
				w.holds(t, x, v)
			}
		}
	}
}

// P14.1: who is parked is admitted, or up, by the step that sees what it waits for, and once alone; it is through, or goes on, by the step that takes its watch back; and a permit that brings nothing lets it look again.
func TestParked(t *testing.T) {
	for _, w := range waitings() {
		seen := "load %c was %v"
		if w.note != "" {
			seen += ", " + w.note
		}
		steps := []string{
			"load %c was %n", "store 15 %w was 00000000", "load %c was %n", "", "",
			"swap 18 00000000 was 00000001", "load %c was %n", "", "swap 18 00000000 was 00000001",
			seen, "store 15 00000000 was %w",
		}
		v, not := w.there[0], w.not[0]
		names := strings.NewReplacer("%c", strconv.Itoa(w.cell), "%v", hex(v), "%n", hex(not), "%w", hex(uint32(w.cell)+1))
		m := memory(3, set{w.cell: not})
		r := line.Run{Mem: m, Map: place.Map{N: 3}, Mode: api.Parked, Task: 1, Frame: api.Frame{Op: w.op, Line: w.line, A: w.a}}
		for i, want := range steps {
			switch i {
			case 5: // a permit of somebody who didn't bring what is waited for
				m.Store(18, 1)
			case 8:
				m.Store(w.cell, v)
				m.Store(18, 1)
			}
			stuck := line.Stuck(r)
			over := r.Step(pq.Lines)
			ends := i == len(steps)-1 && w.to == none
			if want = names.Replace(want); text(&r) != want || over != ends || stuck != (want == "") {
				t.Fatalf("%+v, the step %d: %s, %v, %v, %+v, want %s", w, i, text(&r), over, stuck, r.Frame, want)
			}
		}
		want := api.Frame{Op: w.op, Line: w.line, A: w.a, Ret: yes}
		if w.to != none {
			want.Line, want.Ret = w.to, goes
		}
		if w.keeps {
			want.A = v
		}
		if r.Frame != want {
			t.Errorf("%+v: %+v, want %+v", w, r.Frame, want)
		}
	}
}
