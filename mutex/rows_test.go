package mutex_test

import (
	"slices"
	"strings"
	"testing"

	"stileman/acc"
	"stileman/api"
	"stileman/cells"
	"stileman/line"
	"stileman/mutex"
	"stileman/note"
	"stileman/place"
)

// What a call is.
const (
	enters = iota + 1
	gives
	tries
)

// call is one of the package's calls, with what is handed in besides the run; a is no argument of Enter, nor class of the others.
type call struct {
	what, tail, class, a int
	notes                []int
}

// does does the call, and tells what it answers; in is told by Try alone.
func (c call) does(r *line.Run) (done, in bool) {
	switch c.what {
	case enters:
		return mutex.Enter(r, c.tail, c.class), false
	case gives:
		return mutex.Give(r, c.tail, c.a, c.notes...), false
	}
	return mutex.Try(r, c.tail, c.a)
}

// text is what a step of the run did: its access, and its notes.
func text(r *line.Run) string {
	return strings.Join(append([]string{acc.Text(r.Access)}, note.Rows(r.Notes...)...), ", ")
}

// set are words of cells, by their numbers.
type set map[int]uint32

// none is the cell of no wake-up.
const none = -2

// row is a step of the task 1 of three: the call, the line ahead of it (of Give and Try counted from a), A, and the words of some cells; the access and the notes; A and the line behind it (counted likewise), the cells that have another word then, the cell of the wake-up that begins, and what is answered. The cells next are 8 to 10, blocked 11 to 13, watch 14 to 16, permit 17 to 19.
type row struct {
	what, line int
	a          uint32
	was        set
	step       string
	aThen      uint32
	to         int
	left       set
	wake       int
	done, in   bool
}

// memory makes the memory of a lock for n tasks with those words, and all other cells 0.
func memory(n int, was set) *cells.Memory {
	m, _ := cells.New(8 + 4*n)
	for c, x := range was {
		m.Store(c, x)
	}
	return m
}

// holds does the row's step, of the call from the line a on, and fails the test, unless all is as it tells.
func (x row) holds(t *testing.T, mode, a int) {
	t.Helper()
	m := memory(3, x.was)
	want := m.All()
	for c, v := range x.left {
		want[c] = v
	}
	if x.what == enters {
		a = 0
	}
	r := line.Run{Mem: m, Map: place.Map{N: 3}, Mode: mode, Task: 1}
	r.Frame = api.Frame{Op: 9, Line: a + x.line, A: x.a, B: 77, Ret: api.RetMisuse}
	done, in := call{what: x.what, tail: 2, class: api.HoldWrite, a: a, notes: []int{api.NLeave, api.NPass}}.does(&r)
	then := api.Frame{Op: 9, Line: a + x.to, A: x.aThen, B: 77, Ret: api.RetMisuse}
	if mode == api.Parked && x.wake != none {
		then.Wake = api.Wake{On: true, Cell: x.wake}
	}
	if text(&r) != x.step || r.Frame != then || done != x.done || in != x.in {
		t.Errorf("%+v in the mode %d, from the line %d on: %s, %+v, %v, %v", x, mode, a, text(&r), r.Frame, done, in)
	}
	if all := m.All(); !slices.Equal(all, want) {
		t.Errorf("%+v in the mode %d, from the line %d on: the cells are %x, want %x", x, mode, a, all, want)
	}
}

// hold does all rows' steps in both modes, from many lines on.
func hold(t *testing.T, l []row) {
	t.Helper()
	for _, x := range l {
		for _, mode := range modes() {
			for _, a := range firsts() {
				x.holds(t, mode, a)
			}
		}
	}
}

// P12.1: each line of entering that doesn't wait, each way out of it: the access, the notes, the words behind it, the frame, the wake-up, and what is answered.
func TestRowsOfEnter(t *testing.T) {
	hold(t, []row{
		{enters, 0, 5, set{9: 3}, "store 9 00000000 was 00000003", 5, 1, set{9: 0}, none, false, false},
		{enters, 0, 0, nil, "store 9 00000000 was 00000000", 0, 1, nil, none, false, false},
		{enters, 1, 5, nil, "store 12 00000001 was 00000000", 5, 2, set{12: 1}, none, false, false},
		{enters, 1, 5, set{12: top}, "store 12 00000001 was ffffffff", 5, 2, set{12: 1}, none, false, false},
		{enters, 2, 5, nil, "swap 2 00000002 was 00000000, 1 reg write", 0, 2, set{2: 2}, none, true, false},
		{enters, 2, 0, set{2: 1}, "swap 2 00000002 was 00000001, 1 reg write", 1, 3, set{2: 2}, none, false, false},
		{enters, 2, 5, set{2: 3}, "swap 2 00000002 was 00000003, 1 reg write", 3, 3, set{2: 2}, none, false, false},
		{enters, 2, 5, set{2: 2}, "swap 2 00000002 was 00000002, 1 reg write", 2, 3, nil, none, false, false},
		{enters, 2, 5, set{2: top}, "swap 2 00000002 was ffffffff, 1 reg write", top, 3, set{2: 2}, none, false, false},
		{enters, 3, 1, set{2: 2}, "store 8 00000002 was 00000000", 1, 4, set{8: 2}, 8, false, false},
		{enters, 3, 3, set{10: 1, 8: 6}, "store 10 00000002 was 00000001", 3, 4, set{10: 2}, 10, false, false},
		{enters, 3, 2, nil, "store 9 00000002 was 00000000", 2, 4, set{9: 2}, 9, false, false},
	})
}

// P12.1: likewise of giving on.
func TestRowsOfGive(t *testing.T) {
	hold(t, []row{
		{gives, 0, 5, nil, "load 9 was 00000000", 0, 1, nil, none, false, false},
		{gives, 0, 0, set{9: 3}, "load 9 was 00000003", 3, 3, nil, none, false, false},
		{gives, 0, 5, set{9: 1}, "load 9 was 00000001", 1, 3, nil, none, false, false},
		{gives, 0, 5, set{9: top}, "load 9 was ffffffff", top, 3, nil, none, false, false},
		{gives, 1, 5, set{2: 2}, "cas 2 00000002 00000000 was 00000002, 1 leave, 1 pass", 5, 1, set{2: 0}, none, true, false},
		{gives, 1, 0, set{2: 3}, "cas 2 00000002 00000000 was 00000003", 0, 2, nil, none, false, false},
		{gives, 1, 5, set{2: 1}, "cas 2 00000002 00000000 was 00000001", 5, 2, nil, none, false, false},
		{gives, 1, 2, nil, "cas 2 00000002 00000000 was 00000000", 2, 2, nil, none, false, false},
		{gives, 1, 5, set{2: top}, "cas 2 00000002 00000000 was ffffffff", 5, 2, nil, none, false, false},
		{gives, 3, 3, set{13: 1}, "store 13 00000000 was 00000001, 1 leave, 1 pass", 3, 3, set{13: 0}, 13, true, false},
		{gives, 3, 1, set{11: 1, 12: 1, 2: 1}, "store 11 00000000 was 00000001, 1 leave, 1 pass", 1, 3, set{11: 0}, 11, true, false},
		{gives, 3, 2, nil, "store 12 00000000 was 00000000, 1 leave, 1 pass", 2, 3, nil, 12, true, false},
	})
}

// P12.2: likewise of a try.
func TestRowsOfTry(t *testing.T) {
	hold(t, []row{
		{tries, 0, 5, set{9: 3}, "store 9 00000000 was 00000003", 5, 1, set{9: 0}, none, false, false},
		{tries, 0, 0, nil, "store 9 00000000 was 00000000", 0, 1, nil, none, false, false},
		{tries, 1, 5, nil, "cas 2 00000000 00000002 was 00000000", 5, 1, set{2: 2}, none, true, true},
		{tries, 1, 5, set{9: 7, 12: 1}, "cas 2 00000000 00000002 was 00000000", 5, 1, set{2: 2}, none, true, true},
		{tries, 1, 0, set{2: 1}, "cas 2 00000000 00000002 was 00000001", 0, 1, nil, none, true, false},
		{tries, 1, 5, set{2: 2}, "cas 2 00000000 00000002 was 00000002", 5, 1, nil, none, true, false},
		{tries, 1, 5, set{2: 3}, "cas 2 00000000 00000002 was 00000003", 5, 1, nil, none, true, false},
		{tries, 1, 5, set{2: top}, "cas 2 00000000 00000002 was ffffffff", 5, 1, nil, none, true, false},
	})
}

// P12.1: the class that is handed in is the note's Arg, whatever it is.
func TestClass(t *testing.T) {
	for _, class := range []int{api.HoldRead, api.HoldWrite, api.HoldNone, 3, -1, 1 << 40} {
		for _, mode := range modes() {
			for _, first := range []uint32{0, 1} {
				r := line.Run{Mem: memory(3, set{0: first}), Map: place.Map{N: 3}, Mode: mode, Task: 2, Frame: api.Frame{Line: 2}}
				in := mutex.Enter(&r, 0, class)
				want := []api.Note{{Task: 2, What: api.NReg, Arg: class}}
				if in != (first == 0) || !slices.Equal(r.Notes, want) {
					t.Errorf("the class %d: %v, %+v", class, in, r)
				}
			}
		}
	}
}

// P12.1: the notes of giving on: none, one and more, in their order, also alike ones and such that are none; with an Arg and an Op of 0, by the two lines alone that may give on.
func TestNotesOfGive(t *testing.T) {
	for _, l := range [][]int{nil, {}, {api.NPass}, {api.NLeave, api.NPass}, {api.NPass, api.NLeave}, {api.NAdmit, api.NAdmit, api.NDown}, {0, -1, 99, api.NReg, api.NReturn, 1 << 40}} {
		for n := range 4 {
			for _, tail := range []uint32{2, 3} {
				for _, mode := range modes() {
					r := line.Run{Mem: memory(3, set{0: tail, 9: 3}), Map: place.Map{N: 3}, Mode: mode, Task: 1, Frame: api.Frame{Line: 6 + n, A: 3}}
					given := mutex.Give(&r, 0, 6, l...)
					var want []api.Note
					for _, what := range l {
						want = append(want, api.Note{Task: 1, What: what})
					}
					if n == 0 || n == 1 && tail != 2 || n == 2 {
						want = nil
					}
					if given != (n == 1 && tail == 2 || n == 3) || !slices.Equal(r.Notes, want) {
						t.Errorf("the line %d, of a tail %d, in the mode %d: %v, %+v, want %+v", 6+n, tail, mode, given, r.Notes, want)
					}
				}
			}
		}
	}
}

// P12.1: notes that are there ahead of a step's line stay ahead of those that it notes, and a list that is handed in isn't changed, nor kept.
func TestNotesStay(t *testing.T) {
	whats := []int{api.NLeave, api.NPass, api.NUp}
	r := line.Run{Mem: memory(3, set{0: 2}), Map: place.Map{N: 3}, Mode: api.Spin, Task: 1, Frame: api.Frame{Line: 1}}
	was := []api.Note{{Task: 4, What: 3}, {What: 99}}[:1]
	r.Notes = was
	if !mutex.Give(&r, 0, 0, whats[:2]...) || was[:2][1] != (api.Note{What: 99}) {
		t.Errorf("%+v, %+v", r, was[:2])
	}
	if !slices.Equal(whats, []int{api.NLeave, api.NPass, api.NUp}) {
		t.Errorf("what was handed in is %v", whats)
	}
	whats[0], whats[1] = api.NUp, api.NUp
	want := []api.Note{{Task: 4, What: 3}, {Task: 1, What: api.NLeave}, {Task: 1, What: api.NPass}}
	if !slices.Equal(r.Notes, want) {
		t.Errorf("%+v, want %+v", r.Notes, want)
	}
}
