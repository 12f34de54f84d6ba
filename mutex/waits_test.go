package mutex_test

import (
	"slices"
	"strings"
	"testing"

	"stileman/api"
	"stileman/line"
	"stileman/place"
)

// waiting is a line that waits: for which cell, of the task 1 of three; words of which it is to wait no more, and words of which it waits on; whether A is the word then; and by how much the line behind it is further, or, if that is 0, that it is the last one.
type waiting struct {
	what, line, cell int
	there, not       []uint32
	keeps            bool
	by               int
}

// waitings are both lines that wait; that of giving on is counted from its first one.
func waitings() []waiting {
	return []waiting{
		{enters, 4, 12, []uint32{0}, []uint32{1, 2, 3, half, top}, false, 0},
		{gives, 2, 9, []uint32{1, 2, 3, half, top}, []uint32{0}, true, 1},
	}
}

// stride is a step of waiting from a stage; %c stands for the cell that is waited for, %v for its word, %w for the watch's. The task's watch is the cell 15, its permit the cell 18.
type stride struct {
	mode, stage           int
	there                 bool // whether the word is one of which it waits no more
	permit                uint32
	step                  string
	to                    int // the stage behind it
	seen, done            bool
	watchThen, permitThen uint32
}

// named stands for the word of the watch that names the cell.
const named = 77

// strides are the steps from all stages; the task's watch is 9 ahead of each.
func strides() []stride {
	look := "load %c was %v"
	return []stride{
		{api.Spin, 0, true, 1, look, 0, true, true, 9, 1},
		{api.Spin, 0, false, 1, look, 0, false, false, 9, 1},
		{api.Spin, 1, true, 1, look, 0, true, true, 9, 1},
		{api.Spin, 3, false, 1, look, 0, false, false, 9, 1},
		{api.Spin, 4, false, 1, look, 0, false, false, 9, 1},
		{0, 4, true, 1, look, 0, true, true, 9, 1},
		{3, 4, false, 1, look, 0, false, false, 9, 1},
		{api.Parked, 0, true, 1, look, 0, true, true, 9, 1},
		{api.Parked, 0, false, 1, look, 1, false, false, 9, 1},
		{api.Parked, 1, true, 1, "store 15 %w was 00000009", 2, false, false, named, 1},
		{api.Parked, 1, false, 0, "store 15 %w was 00000009", 2, false, false, named, 0},
		{api.Parked, 2, true, 1, look, 4, true, false, 9, 1},
		{api.Parked, 2, false, 1, look, 3, false, false, 9, 1},
		{api.Parked, 3, true, 1, "swap 18 00000000 was 00000001", 2, false, false, 9, 0},
		{api.Parked, 3, false, top, "swap 18 00000000 was ffffffff", 2, false, false, 9, 0},
		{api.Parked, 3, true, 0, "", 3, false, false, 9, 0},
		{api.Parked, 4, true, 1, "store 15 00000000 was 00000009", 0, false, true, 0, 1},
		{api.Parked, 4, false, 1, "store 15 00000000 was 00000009", 0, false, true, 0, 1},
		{api.Parked, 5, true, 1, look, 0, true, true, 9, 1},
		{api.Parked, -1, false, 1, look, 1, false, false, 9, 1},
	}
}

// hex is v with eight digits.
func hex(v uint32) string {
	const digits = "0123456789abcdef"
	var b []byte
	for i := 28; i >= 0; i -= 4 {
		b = append(b, digits[v>>i&15])
	}
	return string(b)
}

// text is the text of the stride's step, of that line, with that word in the cell.
func (x stride) text(w waiting, v uint32) string {
	cell := map[int]string{9: "9", 12: "12"}[w.cell]
	return strings.NewReplacer("%c", cell, "%v", hex(v), "%w", hex(uint32(w.cell)+1)).Replace(x.step)
}

// holds does the step from the stage, with v in the cell and kept in A, of the call from the line a on.
func (w waiting) holds(t *testing.T, x stride, v, kept uint32, a int) {
	t.Helper()
	m := memory(3, set{2: 6, w.cell: v, 15: 9, 18: x.permit})
	l := m.All()
	r := line.Run{Mem: m, Map: place.Map{N: 3}, Mode: x.mode, Task: 1}
	r.Frame = api.Frame{Op: 9, Line: a + w.line, A: kept, B: 5, Wait: api.Wait{Stage: x.stage}}
	want := api.Frame{Op: 9, Line: a + w.line, A: kept, B: 5, Wait: api.Wait{Stage: x.to}}
	if w.keeps && x.seen {
		want.A = v
	}
	if x.done {
		want.Line += w.by
	}
	done, in := call{what: w.what, tail: 2, class: api.HoldRead, a: a, notes: []int{api.NPass}}.does(&r)
	if text(&r) != x.text(w, v) || r.Frame != want || done != (x.done && w.by == 0) || in {
		t.Errorf("%+v, of %+v, with %x, from the line %d on: %s, %+v, %v", w, x, v, a, text(&r), r.Frame, done)
	}
	l[15], l[18] = x.watchThen, x.permitThen
	if x.watchThen == named {
		l[15] = uint32(w.cell) + 1
	}
	if all := m.All(); !slices.Equal(all, l) {
		t.Errorf("%+v, of %+v, with %x: the cells are %x, want %x", w, x, v, all, l)
	}
}

// P12.1: the lines that wait, from each stage, with what is waited for there and not, and with words in A that are to be kept, or to be another one.
func TestWaits(t *testing.T) {
	for _, w := range waitings() {
		for _, x := range strides() {
			l := w.not
			if x.there {
				l = w.there
			}
			for _, v := range l {
				for _, kept := range words() {
					if w.what == enters {
						w.holds(t, x, v, kept, 0)
						continue
					}
					for _, a := range firsts() {
						w.holds(t, x, v, kept, a)
					}
				}
			}
		}
	}
}

// P12.1: who has begun to wait is in, or goes on, when its watch is taken back, and not by the step that sees what it waits for; a permit that brings nothing lets it look again.
func TestParked(t *testing.T) {
	for _, x := range []struct {
		what, line, cell int
		was, then        uint32
		steps            []string // * stands where the word comes, with a permit, + where a permit comes alone
	}{
		{enters, 4, 12, 1, 0, []string{
			"load 12 was 00000001", "store 15 0000000d was 00000000", "load 12 was 00000001", "", "",
			"+swap 18 00000000 was 00000001", "load 12 was 00000001", "", "*swap 18 00000000 was 00000001",
			"load 12 was 00000000", "store 15 00000000 was 0000000d",
		}},
		{gives, 2, 9, 0, 3, []string{
			"load 9 was 00000000", "store 15 0000000a was 00000000", "load 9 was 00000000", "", "",
			"+swap 18 00000000 was 00000001", "load 9 was 00000000", "", "*swap 18 00000000 was 00000001",
			"load 9 was 00000003", "store 15 00000000 was 0000000a",
		}},
	} {
		m := memory(3, set{x.cell: x.was})
		r := line.Run{Mem: m, Map: place.Map{N: 3}, Mode: api.Parked, Task: 1, Frame: api.Frame{Line: x.line}}
		for i, want := range x.steps {
			want, comes := strings.CutPrefix(want, "*")
			want, idle := strings.CutPrefix(want, "+")
			if comes {
				m.Store(x.cell, x.then)
			}
			if comes || idle {
				m.Store(18, 1)
			}
			stuck := line.Stuck(r)
			done, _ := call{what: x.what, tail: 2, notes: []int{api.NPass}}.does(&r)
			last := i == len(x.steps)-1
			if text(&r) != want || stuck != (want == "") || done != (last && x.what == enters) {
				t.Fatalf("%+v, the step %d: %s, %v, %v, want %s", x, i, text(&r), stuck, done, want)
			}
			r.Access = api.Access{}
		}
		if x.what == gives && (r.Frame != api.Frame{Line: 3, A: 3}) {
			t.Errorf("%+v: %+v", x, r.Frame)
		}
	}
}
