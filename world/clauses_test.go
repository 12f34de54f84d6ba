package world_test

import (
	"slices"
	"testing"

	"stileman/api"
	"stileman/cells"
	"stileman/line"
	"stileman/place"
	"stileman/suite"
	"stileman/world"
)

// lead lets an idle task that holds nothing hold that.
func lead(t *testing.T, w *world.World, task, hold int) {
	t.Helper()
	if hold != none {
		ends(t, w, task, []int{read: api.RLock, write: api.Lock}[hold], api.RetTrue)
	}
}

// nothing fails the test, if the pick does anything, or tells anything.
func nothing(t *testing.T, w *world.World, task, op int) {
	t.Helper()
	if e := pick(t, w, task, op); e.Ran || e.Access != (api.Access{}) || len(e.Notes) > 0 {
		t.Fatalf("the pick %d %d: %+v, of %+v", task, op, e, w.State())
	}
}

// P18.1, P18.2: a pick of a task that isn't there does nothing, whatever its operation is, while others are idle, hold something, or wait; such a task holds nothing, is with nothing, and isn't stuck.
func TestNoTask(t *testing.T) {
	for _, n := range counts() {
		each(t, n, func(w *world.World) {
			first := w.State()
			for _, op := range []int{api.Rest, api.Lock, api.RLock} {
				// The first task gets in by the one, and the last one waits by the other, if it is another one.
				if op != api.Rest {
					goOn(t, w, 0, op)
					goOn(t, w, n-1, api.Lock)
				}
				ahead := w.State()
				for _, task := range noTasks(n) {
					for _, op := range append(operations(), api.Rest, 9, -1) {
						if e := w.Pick(api.Pick{Task: task, Op: op}); e.Ran || e.Access != (api.Access{}) || len(e.Notes) > 0 {
							t.Fatalf("%d tasks: the pick %d %d: %+v", n, task, op, e)
						}
					}
					if w.Hold(task) != none || w.Busy(task) != api.Rest || w.Stuck(task) {
						t.Fatalf("%d tasks: the task %d holds %d, and is with %d", n, task, w.Hold(task), w.Busy(task))
					}
				}
				if !same(w.State(), ahead) || op != api.Rest && same(ahead, first) {
					t.Fatalf("%d tasks: %+v, and was %+v", n, w.State(), ahead)
				}
			}
		})
	}
}

// P18.1: a pick of an idle task with no operation does nothing, whatever it holds.
func TestNoOperation(t *testing.T) {
	for _, n := range []int{1, 2, 64} {
		for _, hold := range []int{none, read, write} {
			each(t, n, func(w *world.World) {
				lead(t, w, n-1, hold)
				for _, op := range noOperations() {
					nothing(t, w, 0, op)
					nothing(t, w, n-1, op)
				}
				if w.Hold(n-1) != hold {
					t.Errorf("it holds %d, and held %d", w.Hold(n-1), hold)
				}
			})
		}
	}
}

// P18.1: an idle task that begins what it may not, by what it holds: misuse, no access, and all stays as it is, each time.
func TestMisuse(t *testing.T) {
	for _, n := range []int{1, 3, 64} {
		for _, hold := range []int{none, read, write} {
			each(t, n, func(w *world.World) {
				task := n / 2
				lead(t, w, task, hold)
				ahead := w.State()
				for range 2 {
					for _, op := range operations() {
						if slices.Contains(choices(hold), op) {
							continue
						}
						e := pick(t, w, task, op)
						want := []api.Note{{Task: task, What: api.NCall, Op: op}, {Task: task, What: api.NReturn, Op: op, Arg: api.RetMisuse}}
						if !e.Ran || e.Access != (api.Access{}) || !slices.Equal(e.Notes, want) || !same(w.State(), ahead) {
							t.Fatalf("one that holds %d, and begins %d: %+v, and it is %+v", hold, op, e, w.State())
						}
					}
				}
			})
		}
	}
}

// P18.1: an idle task that begins what it may: a call, what it holds is told by the operation, its frame is zero but for the operation, whatever it did ahead, and the first step is done.
func TestBegin(t *testing.T) {
	for _, hold := range []int{none, read, write} {
		for _, op := range choices(hold) {
			each(t, 3, func(w *world.World) {
				// Behind these its last frame had words, a line and a result.
				for _, o := range []int{api.Lock, api.Downgrade, api.RUnlock} {
					ends(t, w, 1, o, api.RetTrue)
				}
				lead(t, w, 1, hold)
				s := w.State()
				m, _ := cells.From(s.Cells...)
				lines, _ := suite.Lines(s.Kind)
				r := line.Run{Mem: m, Map: place.Map{N: 3}, Mode: s.Mode, Task: 1, Frame: api.Frame{Op: op}}
				over := r.Step(lines)
				want := append([]api.Note{{Task: 1, What: api.NCall, Op: op}}, r.Notes...)
				frame, at := r.Frame, heldAt(op, hold)
				if over {
					want = append(want, api.Note{Task: 1, What: api.NReturn, Op: op, Arg: r.Frame.Ret})
					frame, at = api.Frame{}, heldBehind(op, hold)
				}
				e := pick(t, w, 1, op)
				if !e.Ran || e.Access != r.Access || e.Access == (api.Access{}) || !slices.Equal(e.Notes, want) {
					t.Fatalf("the operation %d of %+v: %+v, want %+v and %+v", op, s, e, r.Access, want)
				}
				if x := w.State().Tasks[1]; x != (api.Task{Hold: at, Frame: frame}) {
					t.Fatalf("the operation %d of %+v: %+v, want %d, %+v", op, s, x, at, frame)
				}
			})
		}
	}
}

// heldAt is what a task that held that holds from the beginning of an operation on.
func heldAt(op, hold int) int {
	switch op {
	case api.RUnlock, api.Unlock:
		return none
	case api.Downgrade:
		return read
	}
	return hold
}

// heldBehind is what a task that held that holds behind an operation that ended with true.
func heldBehind(op, hold int) int {
	return []int{api.Rest: hold, api.RLock: read, api.RUnlock: none, api.Lock: write, api.Unlock: none, api.TryRLock: read, api.TryLock: write, api.TryUpgrade: write, api.Downgrade: read}[op]
}

// P18.1, P18.2: of each operation that ends with true: what is held from its beginning on, up to the last step but one, and behind its end; it is busy with it until then, and idle from then on.
func TestHeldTrue(t *testing.T) {
	for _, hold := range []int{none, read, write} {
		for _, op := range choices(hold) {
			each(t, 2, func(w *world.World) {
				lead(t, w, 1, hold)
				e := pick(t, w, 1, op)
				for i := 0; returns(e) == api.RetNone; i++ {
					if w.Hold(1) != heldAt(op, hold) || w.Busy(1) != op || i > 20 {
						t.Fatalf("within %d it holds %d, and is with %d: %+v", op, w.Hold(1), w.Busy(1), w.State())
					}
					e = pick(t, w, 1, api.Rest)
				}
				if returns(e) != api.RetTrue || w.Hold(1) != heldBehind(op, hold) || w.Busy(1) != api.Rest {
					t.Fatalf("behind %d, which ended with %d, it holds %d, and is with %d", op, returns(e), w.Hold(1), w.Busy(1))
				}
				nothing(t, w, 1, api.Rest)
			})
		}
	}
}

// P18.1, P18.2: of each try that is refused: what was held ahead of it is held all along.
func TestHeldFalse(t *testing.T) {
	for _, x := range []struct{ op, hold, other int }{
		{api.TryRLock, none, write},
		{api.TryLock, none, read},
		{api.TryLock, none, write},
		{api.TryUpgrade, read, read},
	} {
		each(t, 2, func(w *world.World) {
			lead(t, w, 0, x.other)
			lead(t, w, 1, x.hold)
			e := pick(t, w, 1, x.op)
			for i := 0; returns(e) == api.RetNone; i++ {
				if w.Hold(1) != x.hold || w.Busy(1) != x.op || i > 20 {
					t.Fatalf("within %d it holds %d, and is with %d: %+v", x.op, w.Hold(1), w.Busy(1), w.State())
				}
				e = pick(t, w, 1, api.Rest)
			}
			if returns(e) != api.RetFalse || w.Busy(1) != api.Rest {
				t.Fatalf("%d ended with %d, and it is with %d", x.op, returns(e), w.Busy(1))
			}
			holds(t, w, x.other, x.hold)
		})
	}
}

// P18.1: a refused try that gives back what it had drawn, parked: it ends only with the last step of the wake-up that this begins.
func TestFalseBehindWakeUp(t *testing.T) {
	script(t, made(t, api.PhaseFair, api.Parked, 2, 5), []string{
		"0 rlock: add 0 00000100 was 00000500, 0 call rlock, 0 reg read, 0 admit, 0 return rlock true",
		"1 trylock: load 2 was 00000005, 1 call trylock",
		"1: load 3 was 00000005",
		"1: cas 2 00000005 00000006 was 00000005, 1 reg write",
		"1: load 0 was 00000600",
		"1: load 1 was 00000500, 1 refuse",
		"1: add 3 00000001 was 00000005, 1 pass",
		"1: load 12 was 00000000",
		"1: load 13 was 00000000, 1 return trylock false",
		"1: nothing",
	})
}

// waiting calls do with worlds of two tasks, of which the task 0 holds that, and the task 1 waits within the operation: in the mode Parked it is stuck.
func waiting(t *testing.T, do func(w *world.World, op int)) {
	t.Helper()
	for _, x := range []struct{ hold, op int }{{write, api.RLock}, {write, api.Lock}, {read, api.Lock}} {
		each(t, 2, func(w *world.World) {
			lead(t, w, 0, x.hold)
			ends(t, w, 1, x.op, api.RetNone)
			if w.Stuck(1) != (w.State().Mode == api.Parked) || w.Stuck(0) {
				t.Fatalf("it is stuck: %v: %+v", w.Stuck(1), w.State())
			}
			do(w, x.op)
		})
	}
}

// P18.1, P18.2: a pick of a task that is stuck does nothing, whatever its operation is.
func TestStuck(t *testing.T) {
	waiting(t, func(w *world.World, op int) {
		if w.State().Mode != api.Parked {
			return
		}
		for _, o := range append(operations(), noOperations()...) {
			nothing(t, w, 1, o)
		}
		if w.Busy(1) != op || w.Hold(1) != none {
			t.Errorf("it is with %d, and holds %d", w.Busy(1), w.Hold(1))
		}
	})
}

// P18.1, P18.2: a task that is stuck isn't any more, as soon as it was given its permit, and gets in; until then it was stuck all along.
func TestWoken(t *testing.T) {
	waiting(t, func(w *world.World, op int) {
		if w.State().Mode != api.Parked {
			return
		}
		pick(t, w, 0, leaving(w.Hold(0)))
		for i := 0; w.Busy(0) != api.Rest; i++ {
			if permit := w.State().Cells[8+3*2+1]; w.Stuck(1) != (permit == 0) || i > 40 {
				t.Fatalf("it is stuck: %v: %+v", w.Stuck(1), w.State())
			}
			pick(t, w, 0, api.Rest)
		}
		ends(t, w, 1, api.Rest, api.RetTrue)
		holds(t, w, none, heldBehind(op, none))
	})
}

// P18.1: a pick of a task that is with an operation goes on with that, whatever the pick's operation is: it does what a pick of no operation does.
func TestAnyOperation(t *testing.T) {
	for _, hold := range []int{none, read, write} {
		for _, op := range choices(hold) {
			for _, other := range append(operations(), noOperations()...) {
				for _, kind := range kinds() {
					goesOnAlike(t, kind, hold, op, other)
				}
			}
		}
	}
}

// goesOnAlike fails the test, unless the operation goes on by picks that tell another one as by such as tell none.
func goesOnAlike(t *testing.T, kind, hold, op, other int) {
	t.Helper()
	for _, mode := range modes() {
		a, b := made(t, kind, mode, 2, top), made(t, kind, mode, 2, top)
		for _, w := range []*world.World{a, b} {
			lead(t, w, 0, hold)
			pick(t, w, 0, op)
		}
		for b.Busy(0) != api.Rest {
			x, y := pick(t, a, 0, other), pick(t, b, 0, api.Rest)
			if text(x) != text(y) || !same(a.State(), b.State()) {
				t.Fatalf("the kind %d, within the operation %d a pick of %d: %q, want %q", kind, op, other, text(x), text(y))
			}
		}
		if !same(a.State(), b.State()) {
			t.Fatalf("the kind %d, behind the operation %d: %+v, want %+v", kind, op, a.State(), b.State())
		}
	}
}
