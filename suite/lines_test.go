package suite_test

import (
	"slices"
	"testing"

	"stileman/api"
	"stileman/cells"
	"stileman/fq"
	"stileman/line"
	"stileman/pf"
	"stileman/place"
	"stileman/pq"
	"stileman/rf"
	"stileman/suite"
	"stileman/tf"
	"stileman/wf"
)

// layers are the lines of the layer that each kind is of.
func layers() map[int]func(r *line.Run) {
	return map[int]func(r *line.Run){1: tf.Lines, 2: pf.Lines, 3: pq.Lines, 4: fq.Lines, 5: rf.Lines, 6: wf.Lines}
}

// linesOf answers the kind's lines.
func linesOf(t *testing.T, kind int) func(r *line.Run) {
	t.Helper()
	f, ok := suite.Lines(kind)
	if f == nil || !ok {
		t.Fatalf("the kind %d has no lines: %v", kind, ok)
	}
	return f
}

// spot is a state ahead of a step.
type spot struct {
	mode  int
	frame api.Frame
	words []uint32
}

// run makes a run of the task 1 of three at that state.
func (x spot) run() line.Run {
	m, _ := cells.From(x.words...)
	return line.Run{Mem: m, Map: place.Map{N: 3}, Mode: x.mode, Task: 1, Frame: x.frame}
}

// memories are the cells of locks at first, of all kinds and from some bases, and cells with words of their own.
func memories() [][]uint32 {
	l := [][]uint32{nil, make([]uint32, 20)}
	for _, kind := range kinds() {
		words, _ := place.First(kind, 3, 5)
		l = append(l, words)
	}
	words, _ := place.First(api.PhaseFair, 3, 0xffffffff)
	words[9], words[12] = 1, 1
	marked := make([]uint32, 20)
	for c := range marked {
		marked[c] = uint32(c)*0x01010301 + 2
	}
	return append(l, words, marked)
}

// spots are states of each operation and line, also of such as aren't there.
func spots(yield func(x spot) bool) {
	for _, mode := range modes() {
		for op := -1; op <= 10; op++ {
			for n := -1; n <= 13; n++ {
				for _, a := range []uint32{0, 1, 2, 5, 0x500, 0x600, 0x50500, 0xffffffff} {
					for stage := range 4 {
						for _, words := range memories() {
							if !yield(spot{mode, api.Frame{Op: op, Line: n, A: a, B: 5, Wait: api.Wait{Stage: stage}}, words}) {
								return
							}
						}
					}
				}
			}
		}
	}
}

// alike tells whether a step by f and one by g do the same from x on.
func alike(x spot, f, g func(r *line.Run)) bool {
	a, b := x.run(), x.run()
	overA, overB := a.Step(f), b.Step(g)
	return overA == overB && a.Frame == b.Frame && a.Access == b.Access && slices.Equal(a.Notes, b.Notes) &&
		slices.Equal(a.Mem.All(), b.Mem.All()) && a.Map == b.Map && a.Mode == b.Mode && a.Task == b.Task
}

// P17.1: the lines of each kind are those of its layer: each step does what that one's does, of each operation and from each line, in both modes.
func TestLinesAreTheLayers(t *testing.T) {
	for kind, g := range layers() {
		f := linesOf(t, kind)
		for x := range spots {
			if !alike(x, f, g) {
				t.Fatalf("the kind %d: %+v", kind, x)
			}
		}
	}
}

// differs tells whether a step by f and one by g do something else from any of the states.
func differs(f, g func(r *line.Run)) bool {
	for x := range spots {
		if !alike(x, f, g) {
			return true
		}
	}
	return false
}

// P17.1: the lines of each kind are those of no other layer.
func TestLinesDiffer(t *testing.T) {
	for kind := range layers() {
		f := linesOf(t, kind)
		for other, g := range layers() {
			if other != kind && !differs(f, g) {
				t.Errorf("the kind %d has the lines of %d", kind, other)
			}
		}
	}
}

// P17.1: a number that is no kind has no lines, but nil, from 0 and 7 to the least and the greatest int.
func TestNoLines(t *testing.T) {
	for _, kind := range append(beside(1, 6), 0, 7, -1, 8) {
		if f, ok := suite.Lines(kind); f != nil || ok {
			t.Errorf("the kind %d has lines: %v", kind, ok)
		}
	}
}

// P17.1: lines that are none do nothing, as a step.
func TestNilLines(t *testing.T) {
	f, _ := suite.Lines(7)
	for _, op := range operations() {
		r := spot{api.Spin, api.Frame{Op: op}, make([]uint32, 20)}.run()
		if r.Step(f) || r.Frame != (api.Frame{Op: op}) || r.Access != (api.Access{}) || len(r.Notes) > 0 {
			t.Errorf("the operation %d: %+v", op, r)
		}
	}
}

// P17.1: of a nil run each kind's lines do nothing.
func TestNilRun(t *testing.T) {
	for _, kind := range kinds() {
		f := linesOf(t, kind)
		f(nil)
		var r *line.Run
		if r.Step(f) {
			t.Errorf("the kind %d: a step of a nil run is over", kind)
		}
	}
}

// P17.1: a kind's lines are those of the kind that its name tells.
func TestLinesByName(t *testing.T) {
	for name, g := range map[string]func(r *line.Run){
		"task-fair": tf.Lines, "phase-fair": pf.Lines, "phase-queue": pq.Lines, "fair-queue": fq.Lines, "readers-first": rf.Lines, "writers-first": wf.Lines,
	} {
		kind, ok := suite.Kind(name)
		f := linesOf(t, kind)
		for _, op := range operations() {
			words, _ := place.First(kind, 3, 5)
			if x := (spot{api.Parked, api.Frame{Op: op}, words}); !ok || !alike(x, f, g) {
				t.Errorf("%q: the operation %d", name, op)
			}
		}
	}
}

// R6: a kind's lines are the same ones each time, whatever was asked and done between; and what is done by them is done to the run alone.
func TestLinesAgain(t *testing.T) {
	for _, kind := range kinds() {
		one, two := linesOf(t, kind), linesOf(t, kind)
		words, _ := place.First(kind, 3, 5)
		a, b := spot{api.Spin, api.Frame{Op: api.Lock}, words}.run(), spot{api.Spin, api.Frame{Op: api.Lock}, words}.run()
		for i := 0; !a.Step(one); i++ {
			if i > 10 {
				t.Fatalf("the kind %d: %+v", kind, a)
			}
		}
		if !slices.Equal(b.Mem.All(), words) {
			t.Errorf("the kind %d: another lock's cells are %x", kind, b.Mem.All())
		}
		for i := 0; !b.Step(two); i++ {
			if i > 10 {
				t.Fatalf("the kind %d: %+v", kind, b)
			}
		}
		if a.Frame != b.Frame || !slices.Equal(a.Mem.All(), b.Mem.All()) {
			t.Errorf("the kind %d: %+v, %x, and %+v, %x", kind, a.Frame, a.Mem.All(), b.Frame, b.Mem.All())
		}
	}
}
