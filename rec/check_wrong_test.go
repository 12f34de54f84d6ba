package rec_test

import (
	"testing"

	"stileman/api"
)

// P20.2: notes that aren't right, each for a field of its own, at the first place and behind others, with others behind them.
func TestCheckNotRight(t *testing.T) {
	for _, task := range []int{0, 2, 63} {
		within, without := notRight(task)
		ahead := history(t, "1 call lock", "1 return lock true")
		for _, x := range without {
			fails(t, 64, []api.Note{x}, 0, api.ErrForm)
			fails(t, 64, []api.Note{x, begins(task, api.Lock), begins(task, api.Lock)}, 0, api.ErrForm)
			fails(t, 64, append(ahead, x), 2, api.ErrForm)
		}
		ahead = append(ahead, begins(task, api.RLock))
		for _, x := range within {
			fails(t, 64, append(ahead, x), 3, api.ErrForm)
			fails(t, 64, append(ahead, x, ends(task, api.RLock, api.RetTrue), ends(task, api.RLock, api.RetTrue)), 3, api.ErrForm)
		}
	}
}

// P20.2: a second call of a task that is within one, of whatever operation.
func TestCheckSecondCall(t *testing.T) {
	for _, task := range []int{0, 1, 63} {
		for _, op := range operations() {
			for _, next := range operations() {
				fails(t, 64, []api.Note{begins(task, op), begins(task, next)}, 1, api.ErrOrder)
				fails(t, 64, []api.Note{begins(task, op), begins(task, next), ends(task, next, api.RetTrue), ends(task, op, api.RetTrue)}, 1, api.ErrOrder)
				fails(t, 64, []api.Note{begins(task, op), {Task: task, What: api.NAdmit}, begins(2, op), begins(task, next)}, 3, api.ErrOrder)
				passes(t, 64, []api.Note{begins(task, op), ends(task, op, api.RetFalse), begins(task, next)})
			}
		}
	}
}

// P20.2: a return, and any other note, of a task that is within no call: of one that had none, or whose call has returned.
func TestCheckWithinNothing(t *testing.T) {
	for _, task := range []int{0, 1, 63} {
		others := points(task)
		for _, op := range operations() {
			for _, ret := range results() {
				others = append(others, ends(task, op, ret))
			}
		}
		for _, x := range others {
			fails(t, 64, []api.Note{x}, 0, api.ErrOrder)
			fails(t, 64, []api.Note{x, begins(task, api.Lock)}, 0, api.ErrOrder)
			fails(t, 64, []api.Note{begins(2, api.Lock), x}, 1, api.ErrOrder)
			for _, op := range operations() {
				fails(t, 64, []api.Note{begins(task, op), ends(task, op, api.RetTrue), x}, 2, api.ErrOrder)
				fails(t, 64, []api.Note{begins(2, op), begins(task, op), ends(task, op, api.RetFalse), x, ends(2, op, api.RetTrue)}, 3, api.ErrOrder)
			}
		}
	}
}

// P20.2: a return of another operation than the call's, which is one that another task is within.
func TestCheckOtherReturn(t *testing.T) {
	for _, op := range operations() {
		for _, other := range operations() {
			for _, ret := range results() {
				l := []api.Note{begins(1, op), begins(0, other), ends(1, other, ret), ends(0, other, ret)}
				if op == other {
					passes(t, 2, l)
				} else {
					fails(t, 2, l, 2, api.ErrOrder)
				}
				// What the task was within ahead of this call plays no part.
				l = []api.Note{begins(1, other), ends(1, other, ret), begins(1, op), ends(1, other, ret)}
				if op == other {
					passes(t, 2, l)
				} else {
					fails(t, 2, l, 3, api.ErrOrder)
				}
			}
		}
	}
}

// P20.2: of several errors of one note, the one that is named first.
func TestCheckFirstError(t *testing.T) {
	for _, task := range []int{5, 63} {
		within, without := notRight(task)
		for _, x := range append(within, without...) {
			for _, n := range []int{-1, 0, 1, 5, 64} {
				fails(t, n, []api.Note{x}, 0, api.ErrForm)
				if n > 0 {
					fails(t, n, []api.Note{begins(0, api.Lock), x}, 1, api.ErrForm)
				} else {
					fails(t, n, []api.Note{begins(0, api.Lock), x}, 0, api.ErrRange)
				}
			}
			fails(t, 64, []api.Note{begins(task, api.Lock), x}, 1, api.ErrForm)
			fails(t, 64, []api.Note{begins(task, api.RLock), ends(task, api.RLock, api.RetTrue), x}, 2, api.ErrForm)
		}
		// Out of range, and within no call.
		for _, x := range append(points(task), ends(task, api.Lock, api.RetTrue)) {
			fails(t, 5, []api.Note{begins(0, api.Lock), x}, 1, api.ErrRange)
			fails(t, task, []api.Note{begins(0, api.Lock), x}, 1, api.ErrRange)
			fails(t, task+1, []api.Note{begins(0, api.Lock), x}, 1, api.ErrOrder)
		}
	}
	// A task that can't be isn't right, however many tasks there are.
	for _, n := range counts() {
		fails(t, n, []api.Note{begins(64, api.Lock)}, 0, api.ErrForm)
		fails(t, n, []api.Note{begins(-1, api.Lock)}, 0, api.ErrForm)
		for _, task := range far() {
			fails(t, n, []api.Note{begins(task, api.Lock)}, 0, api.ErrForm)
			fails(t, n, []api.Note{ends(task, api.Lock, api.RetTrue)}, 0, api.ErrForm)
		}
	}
}

// P20.2: of several wrong notes, the first one, for its own reason.
func TestCheckFirstWrong(t *testing.T) {
	wrong := map[api.Note]api.Errno{
		{Task: 1, What: api.NCall}:      api.ErrForm,
		begins(3, api.Lock):             api.ErrRange,
		ends(2, api.Lock, api.RetTrue):  api.ErrOrder,
		{Task: 2, What: api.NAdmit}:     api.ErrOrder,
		ends(63, api.Lock, api.RetTrue): api.ErrRange,
	}
	ahead := history(t, "0 call lock", "0 reg write", "1 call rlock", "0 return lock true")
	for a, e := range wrong {
		for b := range wrong {
			for c := range wrong {
				fails(t, 3, []api.Note{a, b, c}, 0, e)
				for i := range len(ahead) + 1 {
					l := append(ahead[:i:i], a, b, c)
					l = append(l, ahead[i:]...)
					fails(t, 3, l, i, e)
					fails(t, 3, append(l[:i+1:i+1], ahead[i:]...), i, e)
				}
			}
		}
	}
}

// P20.2: a wrong note in the midst of a history of all operations, at each place.
func TestCheckWrongAnywhere(t *testing.T) {
	var l []api.Note
	for i, op := range operations() {
		l = append(l, begins(i, op))
		l = append(l, points(i)...)
		l = append(l, ends(i, op, 1+i%3))
	}
	passes(t, 8, l)
	within, without := notRight(9)
	for i := range len(l) + 1 {
		put := func(x api.Note) []api.Note {
			return append(append(l[:i:i], x), l[i:]...)
		}
		for _, x := range append(within, without...) {
			fails(t, 8, put(x), i, api.ErrForm)
		}
		fails(t, 8, put(begins(8, api.Lock)), i, api.ErrRange)
		fails(t, 9, put(ends(8, api.Lock, api.RetTrue)), i, api.ErrOrder)
		passes(t, 9, put(begins(8, api.Lock)))
	}
}

// P20.2: a note told twice, or left out, at each place of a history.
func TestCheckTwiceOrNever(t *testing.T) {
	var l []api.Note
	for i, op := range operations() {
		l = append(l, begins(i, op), api.Note{Task: i, What: api.NAdmit}, ends(i, op, 1+i%3))
	}
	for i, x := range l {
		twice := append(append(l[:i:i], x), l[i:]...)
		never := append(l[:i:i], l[i+1:]...)
		switch x.What {
		case api.NCall:
			fails(t, 8, twice, i+1, api.ErrOrder)
			fails(t, 8, never, i, api.ErrOrder)
		case api.NAdmit:
			passes(t, 8, twice)
			passes(t, 8, never)
		case api.NReturn:
			fails(t, 8, twice, i+1, api.ErrOrder)
			passes(t, 8, never)
			fails(t, 8, append(never, begins(x.Task, x.Op)), len(never), api.ErrOrder)
		}
	}
}
