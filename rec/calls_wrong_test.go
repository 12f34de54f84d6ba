package rec_test

import (
	"slices"
	"testing"

	"stileman/api"
)

// ints are any numbers for a field of a note, right and wrong ones.
func ints() []int {
	return append(far(), 0, 1, 2, 3, 8, 9, 10, 12, 13, 63)
}

// P20.1: a call and its return of any task, whatever number that is.
func TestCallsOfAnyTask(t *testing.T) {
	for _, task := range ints() {
		l := []api.Note{begins(task, api.Lock), {Task: task, What: api.NAdmit}, ends(task, api.Lock, api.RetTrue)}
		has(t, l, call(task, api.Lock, 0, 2, api.RetTrue, 1))
		for _, other := range ints() {
			if other != task {
				l[1].Task = other
				has(t, l, call(task, api.Lock, 0, 2, api.RetTrue))
				has(t, append([]api.Note{begins(other, api.RLock)}, l...), call(other, api.RLock, 0, -1, 0, 2), call(task, api.Lock, 1, 3, api.RetTrue))
				has(t, []api.Note{begins(task, api.Lock), ends(other, api.Lock, api.RetTrue)}, call(task, api.Lock, 0, -1, 0))
			}
		}
	}
}

// P20.1: a call of any operation, and with any Arg, which tells nothing.
func TestCallsOfAnyOperation(t *testing.T) {
	for _, x := range ints() {
		has(t, []api.Note{begins(3, x), ends(3, x, api.RetFalse)}, call(3, x, 0, 1, api.RetFalse))
		has(t, []api.Note{begins(3, x)}, call(3, x, 0, -1, 0))
		begin := begins(3, api.Lock)
		begin.Arg = x
		has(t, []api.Note{begin}, call(3, api.Lock, 0, -1, 0))
		has(t, []api.Note{begin, ends(3, api.Lock, api.RetTrue)}, call(3, api.Lock, 0, 1, api.RetTrue))
	}
}

// P20.1: a return ends the call whatever operation it tells; the call's own one is told; and a return with any Arg is the result.
func TestAnyReturn(t *testing.T) {
	for _, x := range ints() {
		has(t, []api.Note{begins(3, api.Lock), ends(3, x, api.RetFalse), {Task: 3, What: api.NAdmit}}, call(3, api.Lock, 0, 1, api.RetFalse))
		has(t, []api.Note{begins(3, api.Lock), ends(3, api.Lock, x), {Task: 3, What: api.NAdmit}}, call(3, api.Lock, 0, 1, x))
	}
	has(t, []api.Note{begins(3, api.Lock), ends(3, api.Lock, 0), ends(3, api.Lock, api.RetTrue)}, call(3, api.Lock, 0, 1, 0))
}

// P20.1: a note of any What that is no call and no return is a point, with any Op and Arg.
func TestAnyPoint(t *testing.T) {
	for _, what := range ints() {
		for _, x := range ints() {
			if what == api.NCall || what == api.NReturn {
				continue
			}
			for _, p := range []api.Note{{Task: 3, What: what}, {Task: 3, What: what, Op: x}, {Task: 3, What: what, Arg: x}, {Task: 3, What: what, Op: x, Arg: x}} {
				has(t, []api.Note{begins(3, api.Lock), p, ends(3, api.Lock, api.RetTrue)}, call(3, api.Lock, 0, 2, api.RetTrue, 1))
				has(t, []api.Note{p, begins(3, api.Lock), p}, call(3, api.Lock, 1, -1, 0, 2))
				has(t, []api.Note{p})
			}
		}
	}
}

// P20.1: returns without a call have none, and what stands behind them neither.
func TestReturnsAlone(t *testing.T) {
	l := history(t, "1 return lock true", "1 admit", "1 return lock false", "2 return lock true", "1 call lock", "1 return lock true", "1 return lock false", "1 admit", "1 return unlock true")
	has(t, l, call(1, api.Lock, 4, 5, api.RetTrue))
	has(t, l[:4])
	has(t, slices.Repeat(l[:1], 1000))
}

// P20.1: two calls of a task with no return between: the next return is that of both, and the notes up to it are points of both.
func TestTwoCalls(t *testing.T) {
	l := history(t, "1 call lock", "1 reg write", "1 call rlock", "1 reg read", "0 call lock", "1 admit", "1 return rlock true", "1 admit", "1 return lock false")
	has(t, l,
		call(1, api.Lock, 0, 6, api.RetTrue, 1, 3, 5),
		call(1, api.RLock, 2, 6, api.RetTrue, 3, 5),
		call(0, api.Lock, 4, -1, 0),
	)
	has(t, l[:6],
		call(1, api.Lock, 0, -1, 0, 1, 3, 5),
		call(1, api.RLock, 2, -1, 0, 3, 5),
		call(0, api.Lock, 4, -1, 0),
	)
}

// P20.1: many calls of a task with no return between, and again behind it.
func TestManyCallsAtOnce(t *testing.T) {
	for _, task := range []int{0, 63, 64, -1} {
		var l []api.Note
		var want []api.Call
		for i := range 100 {
			want = append(want, call(task, i, len(l), 200, api.RetMisuse))
			l = append(l, begins(task, i), api.Note{Task: task, What: api.NUp})
			for k := range want {
				want[k].Points = append(want[k].Points, len(l)-1)
			}
		}
		l = append(l, ends(task, api.Rest, api.RetMisuse), api.Note{Task: task, What: api.NUp})
		l = append(l, begins(task, api.Lock), begins(task, api.Lock), begins(task+1, api.Lock))
		want = append(want, call(task, api.Lock, 202, -1, 0), call(task, api.Lock, 203, -1, 0), call(task+1, api.Lock, 204, -1, 0))
		has(t, l, want...)
	}
}

// P20.1: many calls, none of which returns, of a task, and of a task each.
func TestManyCallsOpen(t *testing.T) {
	var one, each []api.Note
	var ofOne, ofEach []api.Call
	for i := range 1 << 16 {
		one = append(one, begins(-5, i))
		ofOne = append(ofOne, call(-5, i, i, -1, 0))
		each = append(each, begins(i-100, api.Lock))
		ofEach = append(ofEach, call(i-100, api.Lock, i, -1, 0))
	}
	has(t, one, ofOne...)
	has(t, each, ofEach...)
}

// P20.1: zero notes, which are of no What, are points of the task 0.
func TestZeroNotes(t *testing.T) {
	has(t, make([]api.Note, 100))
	has(t, []api.Note{{}, begins(0, api.RLock), {}, begins(1, api.RLock), {}, ends(0, api.RLock, api.RetTrue), {}}, call(0, api.RLock, 1, 5, api.RetTrue, 2, 4), call(1, api.RLock, 3, -1, 0))
}
