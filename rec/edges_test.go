package rec_test

import (
	"math"
	"slices"
	"testing"

	"stileman/api"
	"stileman/note"
	"stileman/rec"
)

// history are the notes with these texts.
func history(t *testing.T, rows ...string) []api.Note {
	t.Helper()
	var l []api.Note
	for _, row := range rows {
		n, e := note.Parse(row)
		if e != api.OK {
			t.Fatalf("%q is no note: %v", row, e)
		}
		l = append(l, n)
	}
	return l
}

// call is a call, in short.
func call(task, op, from, to, ret int, points ...int) api.Call {
	return api.Call{Task: task, Op: op, From: from, To: to, Ret: ret, Points: points}
}

// begins is the note of an operation's beginning.
func begins(task, op int) api.Note {
	return api.Note{Task: task, What: api.NCall, Op: op}
}

// ends is the note of an operation's end.
func ends(task, op, ret int) api.Note {
	return api.Note{Task: task, What: api.NReturn, Op: op, Arg: ret}
}

// operations are all operations.
func operations() []int {
	return []int{api.RLock, api.RUnlock, api.Lock, api.Unlock, api.TryRLock, api.TryLock, api.TryUpgrade, api.Downgrade}
}

// results are all that an operation may return.
func results() []int {
	return []int{api.RetFalse, api.RetTrue, api.RetMisuse}
}

// points are the right notes of the task that are no call and no return.
func points(task int) []api.Note {
	l := []api.Note{{Task: task, What: api.NReg, Arg: api.HoldRead}, {Task: task, What: api.NReg, Arg: api.HoldWrite}}
	for _, what := range []int{api.NPresent, api.NAdmit, api.NRefuse, api.NRelease, api.NLeave, api.NPass, api.NUp, api.NDown} {
		l = append(l, api.Note{Task: task, What: what})
	}
	return l
}

// far are numbers that are none of anything, some of which would be, if they were cut to fewer bits.
func far() []int {
	return []int{-1, -2, -11, -64, 64, 65, 100, 255, 256, 257, 258, 267, 1<<16 + 1, 1 << 31, 1 << 32, 1<<32 + 1, 1<<32 + 2, 1<<32 + 11, -1 << 32, 1 - 1<<32, math.MinInt32, math.MinInt, math.MinInt + 1, math.MinInt + 11, math.MaxInt - 1, math.MaxInt}
}

// notRight are notes that aren't right, each for one field of its own; but for that they are of the task, and could be its next one, if it is within rlock or not.
func notRight(task int) (within, without []api.Note) {
	for _, x := range far() {
		within = append(within,
			api.Note{Task: x, What: api.NAdmit},
			api.Note{Task: x, What: api.NReturn, Op: api.RLock, Arg: api.RetTrue},
			api.Note{Task: task, What: x},
			api.Note{Task: task, What: api.NAdmit, Op: x},
			api.Note{Task: task, What: api.NAdmit, Arg: x},
			api.Note{Task: task, What: api.NReg, Arg: x},
			api.Note{Task: task, What: api.NReg, Op: x, Arg: api.HoldRead},
			api.Note{Task: task, What: api.NReturn, Op: x, Arg: api.RetTrue},
			api.Note{Task: task, What: api.NReturn, Op: api.RLock, Arg: x},
		)
		without = append(without,
			api.Note{Task: x, What: api.NCall, Op: api.RLock},
			api.Note{Task: task, What: api.NCall, Op: x},
			api.Note{Task: task, What: api.NCall, Op: api.RLock, Arg: x},
		)
	}
	within = append(within,
		api.Note{Task: task},
		api.Note{Task: task, What: 12},
		api.Note{Task: task, What: api.NUp, Op: api.TryUpgrade},
		api.Note{Task: task, What: api.NDown, Arg: api.HoldRead},
		api.Note{Task: task, What: api.NReg},
		api.Note{Task: task, What: api.NReg, Arg: 3},
		api.Note{Task: task, What: api.NReturn, Arg: api.RetTrue},
		api.Note{Task: task, What: api.NReturn, Op: 9, Arg: api.RetTrue},
		api.Note{Task: task, What: api.NReturn, Op: api.RLock},
		api.Note{Task: task, What: api.NReturn, Op: api.RLock, Arg: 4},
	)
	without = append(without,
		api.Note{Task: task, What: api.NCall},
		api.Note{Task: task, What: api.NCall, Op: 9},
		api.Note{Task: task, What: api.NCall, Op: api.RLock, Arg: api.RetTrue},
	)
	return within, without
}

// dice are numbers that look like chance, and are the same ones each time.
type dice uint64

// below answers the next one, from 0 to n - 1.
func (d *dice) below(n int) int {
	*d = *d*6364136223846793005 + 1442695040888963407
	return int(uint64(*d) >> 33 % uint64(n))
}

// oneOf answers the next one of l.
func oneOf[T any](d *dice, l []T) T {
	return l[d.below(len(l))]
}

// alike tells whether two calls are.
func alike(a, b api.Call) bool {
	return a.Task == b.Task && a.Op == b.Op && a.From == b.From && a.To == b.To && a.Ret == b.Ret && slices.Equal(a.Points, b.Points)
}

// few are the first ones of a list, which may be too long to be told.
func few[T any](l []T) []T {
	return l[:min(len(l), 20)]
}

// has fails the test, unless these are the calls of l.
func has(t *testing.T, l []api.Note, want ...api.Call) {
	t.Helper()
	if got := rec.Calls(l); !slices.EqualFunc(got, want, alike) {
		t.Errorf("Calls of %d notes, %+v: %+v, want %+v", len(l), few(l), few(got), few(want))
	}
}

// passes fails the test, unless l is a history of n tasks.
func passes(t *testing.T, n int, l []api.Note) {
	t.Helper()
	if at, e := rec.Check(n, l); at != 0 || e != api.OK {
		t.Errorf("Check(%d) of %d notes, %+v: %d, %v", n, len(l), few(l), at, e)
	}
}

// fails fails the test, unless the first wrong note of l stands at that place, for that reason.
func fails(t *testing.T, n int, l []api.Note, place int, want api.Errno) {
	t.Helper()
	if at, e := rec.Check(n, l); at != place || e != want {
		t.Errorf("Check(%d) of %d notes, %+v: %d, %v, want %d, %v", n, len(l), few(l), at, e, place, want)
	}
}

// pends fails the test, unless these tasks are within a call behind l.
func pends(t *testing.T, l []api.Note, want ...int) {
	t.Helper()
	if got := rec.Pending(l); !slices.Equal(got, want) {
		t.Errorf("Pending of %d notes, %+v: %v, want %v", len(l), few(l), got, want)
	}
}
