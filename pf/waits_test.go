package pf_test

import (
	"strings"
	"testing"

	"stileman/api"
	"stileman/line"
	"stileman/pf"
	"stileman/place"
)

// waiting is a line that waits: for which cell, with which word in A; words of which it is to wait no more, and words of which it waits on; what it notes when it sees one, and where it goes when it is done: to a line, or, at none, to its end.
type waiting struct {
	op, line, cell int
	a              uint32
	there, not     []uint32
	note           string
	to             int
}

// waitings are all lines that wait.
func waitings() []waiting {
	return []waiting{
		{api.RLock, 1, 0, 0x502, []uint32{0x500, 0x503, 0x501, 0x603, 0, 1, 3, 0xffffff00}, []uint32{0x502, 0x602, 2, 0xffffff02, 6}, "admit", none},
		{api.RLock, 1, 0, 0x503, []uint32{0x500, 0x502, 0x501, 0x602, 0, 1, 2, 0xffffff00}, []uint32{0x503, 0x603, 3, 0xffffff03, top}, "admit", none},
		{api.RLock, 1, 0, 0x500, []uint32{0x503, 0x502, 0x501}, []uint32{0x500, 0, 4}, "admit", none},
		{api.RLock, 1, 0, top, []uint32{0, 1, 2, top - 1, top - 3}, []uint32{top, 3, top - 4}, "admit", none},
		{api.Lock, 1, 3, 5, []uint32{5}, []uint32{4, 6, 0, top, 5 + half}, "", 2},
		{api.Lock, 1, 3, top, []uint32{top}, []uint32{0, top - 1, half - 1}, "", 2},
		{api.Lock, 4, 1, 0x500, []uint32{0x500}, []uint32{0x400, 0x600, 0x501, 0, 0x80000500}, "admit", none},
		{api.Lock, 4, 1, 0, []uint32{0}, []uint32{0xffffff00, 0x100, 1, half}, "admit", none},
		{api.TryLock, 7, 1, 0x500, []uint32{0x500}, []uint32{0x400, 0x600, 0x502, 0, 0x80000500}, "admit", none},
		{api.TryLock, 7, 1, 0xffffff00, []uint32{0xffffff00}, []uint32{0xfffffe00, 0, top}, "admit", none},
		{api.TryUpgrade, 7, 1, 0x500, []uint32{0x400}, []uint32{0x500, 0x300, 0x402, 0, 0x80000400}, "up", 8},
		{api.TryUpgrade, 7, 1, 0, []uint32{0xffffff00}, []uint32{0, 0xfffffe00, top, 0x7fffff00}, "up", 8},
	}
}

// stride is a step of waiting from a stage; %c stands for the cell that is waited for, %v for its word, %w for the watch's.
type stride struct {
	mode, stage           int
	there                 bool // whether the word is one of which it waits no more
	permit                uint32
	step                  string
	to                    int // the stage behind it
	seen, done            bool
	watchThen, permitThen uint32
}

// named stands for the word of the watch that names the cell.
const named = 77

// strides are the steps from all stages; the task's watch is 9 ahead of each.
func strides() []stride {
	look := "load %c was %v"
	return []stride{
		{api.Spin, 0, true, 1, look, 0, true, true, 9, 1},
		{api.Spin, 0, false, 1, look, 0, false, false, 9, 1},
		{api.Spin, 1, true, 1, look, 0, true, true, 9, 1},
		{api.Spin, 3, false, 1, look, 0, false, false, 9, 1},
		{api.Spin, 4, false, 1, look, 0, false, false, 9, 1},
		{0, 4, true, 1, look, 0, true, true, 9, 1},
		{3, 4, false, 1, look, 0, false, false, 9, 1},
		{api.Parked, 0, true, 1, look, 0, true, true, 9, 1},
		{api.Parked, 0, false, 1, look, 1, false, false, 9, 1},
		{api.Parked, 1, true, 1, "store 13 %w was 00000009", 2, false, false, named, 1},
		{api.Parked, 1, false, 0, "store 13 %w was 00000009", 2, false, false, named, 0},
		{api.Parked, 2, true, 1, look, 4, true, false, 9, 1},
		{api.Parked, 2, false, 1, look, 3, false, false, 9, 1},
		{api.Parked, 3, true, 1, "swap 15 00000000 was 00000001", 2, false, false, 9, 0},
		{api.Parked, 3, false, top, "swap 15 00000000 was ffffffff", 2, false, false, 9, 0},
		{api.Parked, 3, true, 0, "", 3, false, false, 9, 0},
		{api.Parked, 4, true, 1, "store 13 00000000 was 00000009", 0, false, true, 0, 1},
		{api.Parked, 4, false, 1, "store 13 00000000 was 00000009", 0, false, true, 0, 1},
		{api.Parked, 5, true, 1, look, 0, true, true, 9, 1},
		{api.Parked, -1, false, 1, look, 1, false, false, 9, 1},
	}
}

// hex is v with eight digits.
func hex(v uint32) string {
	const digits = "0123456789abcdef"
	var b []byte
	for i := 28; i >= 0; i -= 4 {
		b = append(b, digits[v>>i&15])
	}
	return string(b)
}

// text is the text of the stride's step, of that line, with that word in the cell.
func (x stride) text(w waiting, v uint32) string {
	s := strings.NewReplacer("%c", string(rune('0'+w.cell)), "%v", hex(v), "%w", hex(uint32(w.cell)+1)).Replace(x.step)
	if x.seen && w.note != "" {
		s += ", 1 " + w.note
	}
	return s
}

// holds does the step from the stage, as the second one of two tasks, whose watch is the cell 13, and whose permit the cell 15.
func (w waiting) holds(t *testing.T, x stride, v uint32) {
	t.Helper()
	was := own{0x1111, 0x2222, 0x3333, 0x4444, 0x5555}
	was[w.cell] = v
	m := memory(2, was)
	m.Store(13, 9)
	m.Store(15, x.permit)
	l := m.All()
	r := line.Run{Mem: m, Map: place.Map{N: 2}, Mode: x.mode, Task: 1}
	r.Frame = api.Frame{Op: w.op, Line: w.line, A: w.a, B: 6, Wait: api.Wait{Stage: x.stage}}
	want := api.Frame{Op: w.op, Line: w.line, A: w.a, B: 6, Wait: api.Wait{Stage: x.to}}
	if x.done && w.to == none {
		want.Ret = yes
	} else if x.done {
		want.Line = w.to
	}
	over := r.Step(pf.Lines)
	if text(&r) != x.text(w, v) || r.Frame != want || over != (want.Ret != goes) || ownOf(m) != was {
		t.Errorf("%+v, of %+v, with %x: %s, %+v, %v, %x", w, x, v, text(&r), r.Frame, over, ownOf(m))
	}
	l[13], l[15] = x.watchThen, x.permitThen
	if x.watchThen == named {
		l[13] = uint32(w.cell) + 1
	}
	rest(t, m, l)
}

// P11.1: the lines that wait, from each stage, with what is waited for there and not.
func TestWaits(t *testing.T) {
	for _, w := range waitings() {
		for _, x := range strides() {
			l := w.not
			if x.there {
				l = w.there
			}
			for _, v := range l {
				w.holds(t, x, v)
			}
		}
	}
}

// P11.1: who has begun to wait is admitted, or up, by the step that sees what it waits for, and once alone, though the waiting is done later.
func TestAdmittedOnce(t *testing.T) {
	for _, x := range []struct {
		op, line int
		was      own // the word that is waited for isn't there
		a        uint32
		then     own // it is there
		look     string
		steps    []string // from the one that sees it on
	}{
		{api.RLock, 1, own{0x602, 0, 1, 0, 0}, 0x502, own{0x603, 0, 2, 1, 1}, "load 0 was 00000602", []string{"load 0 was 00000603, 1 admit", "store 13 00000000 was 00000001"}},
		{api.Lock, 1, own{0x602, 0, 9, 4, 0}, 5, own{0x600, 0, 9, 5, 1}, "load 3 was 00000004", []string{"load 3 was 00000005", "store 13 00000000 was 00000004", "load 4 was 00000001", "add 0 00000003 was 00000600, 1 present", "load 1 was 00000000"}},
		{api.Lock, 4, own{0x602, 0x500, 1, 0, 0}, 0x600, own{0x602, 0x600, 1, 0, 0}, "load 1 was 00000500", []string{"load 1 was 00000600, 1 admit", "store 13 00000000 was 00000002"}},
		{api.TryLock, 7, own{0x602, 0x500, 1, 0, 0}, 0x600, own{0x602, 0x600, 1, 0, 0}, "load 1 was 00000500", []string{"load 1 was 00000600, 1 admit", "store 13 00000000 was 00000002"}},
		{api.TryUpgrade, 7, own{0x602, 0x400, 1, 0, 0}, 0x600, own{0x602, 0x500, 1, 0, 0}, "load 1 was 00000400", []string{"load 1 was 00000500, 1 up", "store 13 00000000 was 00000002", "add 1 00000100 was 00000500"}},
	} {
		m := memory(2, x.was)
		r := line.Run{Mem: m, Map: place.Map{N: 2}, Mode: api.Parked, Task: 1}
		r.Frame = api.Frame{Op: x.op, Line: x.line, A: x.a}
		watch := "store 13 0000000" + string(rune(x.look[5]+1)) + " was 00000000"
		permit := "swap 15 00000000 was 00000001"
		steps := append([]string{x.look, watch, x.look, "", "", permit, x.look, "", permit}, x.steps...)
		for i, want := range steps {
			switch i {
			case 5: // a permit of somebody who didn't bring what is waited for
				m.Store(15, 1)
			case 8:
				for c, v := range x.then {
					m.Store(c, v)
				}
				m.Store(15, 1)
			}
			over := r.Step(pf.Lines)
			ends := i == len(steps)-1 && (x.op != api.Lock || x.line != 1)
			if text(&r) != want || over != ends {
				t.Fatalf("the operation %d, the step %d: %s, %v, %+v, want %s", x.op, i, text(&r), over, r.Frame, want)
			}
		}
	}
}
