package rec_test

import (
	"slices"
	"testing"

	"stileman/api"
)

// P20.1: the chapter's example.
func TestExample(t *testing.T) {
	has(t, history(t, "0 call rlock", "0 return rlock true"), call(0, api.RLock, 0, 1, api.RetTrue))
}

// P20.1: no notes have no calls.
func TestNoCalls(t *testing.T) {
	has(t, nil)
	has(t, []api.Note{})
}

// P20.1: one note.
func TestOneNote(t *testing.T) {
	for _, task := range []int{0, 1, 63} {
		for _, op := range operations() {
			has(t, []api.Note{begins(task, op)}, call(task, op, 0, -1, 0))
			for _, ret := range results() {
				has(t, []api.Note{ends(task, op, ret)})
			}
		}
		for _, x := range points(task) {
			has(t, []api.Note{x})
		}
	}
}

// P20.1: each operation, with each result.
func TestEachOperation(t *testing.T) {
	for _, task := range []int{0, 5, 63} {
		for _, op := range operations() {
			for _, ret := range results() {
				has(t, []api.Note{begins(task, op), ends(task, op, ret)}, call(task, op, 0, 1, ret))
			}
		}
	}
}

// P20.1: calls of a task, one behind the other.
func TestOneBehindAnother(t *testing.T) {
	l := history(t,
		"2 call rlock", "2 reg read", "2 admit", "2 return rlock true",
		"2 call rlock", "2 return rlock misuse",
		"2 call upgrade", "2 refuse", "2 return upgrade false",
		"2 call runlock", "2 release",
	)
	has(t, l,
		call(2, api.RLock, 0, 3, api.RetTrue, 1, 2),
		call(2, api.RLock, 4, 5, api.RetMisuse),
		call(2, api.TryUpgrade, 6, 8, api.RetFalse, 7),
		call(2, api.RUnlock, 9, -1, 0, 10),
	)
}

// P20.1: calls of several tasks, in each other's way: each has its own task's return, and its own task's notes.
func TestInEachOthersWay(t *testing.T) {
	l := history(t,
		"1 call lock", "0 call trylock", "1 reg write", "0 refuse", "3 call rlock", "0 return trylock false",
		"3 reg read", "1 present", "0 call rlock", "1 admit", "1 return lock true", "0 reg read", "1 call unlock",
		"1 leave", "3 admit", "0 admit", "1 pass", "3 return rlock true", "1 return unlock true",
	)
	has(t, l,
		call(1, api.Lock, 0, 10, api.RetTrue, 2, 7, 9),
		call(0, api.TryLock, 1, 5, api.RetFalse, 3),
		call(3, api.RLock, 4, 17, api.RetTrue, 6, 14),
		call(0, api.RLock, 8, -1, 0, 11, 15),
		call(1, api.Unlock, 12, 18, api.RetTrue, 13, 16),
	)
}

// P20.1: the calls stand in the order in which they began, not in that of their ends or tasks.
func TestOrder(t *testing.T) {
	l := history(t,
		"9 call lock", "5 call rlock", "7 call runlock", "7 return runlock true", "5 return rlock true",
		"7 call rlock", "9 return lock true", "7 return rlock true", "0 call unlock", "9 call unlock",
	)
	has(t, l,
		call(9, api.Lock, 0, 6, api.RetTrue),
		call(5, api.RLock, 1, 4, api.RetTrue),
		call(7, api.RUnlock, 2, 3, api.RetTrue),
		call(7, api.RLock, 5, 7, api.RetTrue),
		call(0, api.Unlock, 8, -1, 0),
		call(9, api.Unlock, 9, -1, 0),
	)
}

// P20.1: points: each note that is no call and no return, up to the return, or up to the end.
func TestPoints(t *testing.T) {
	for _, x := range points(4) {
		has(t, []api.Note{begins(4, api.Lock), x, ends(4, api.Lock, api.RetTrue)}, call(4, api.Lock, 0, 2, api.RetTrue, 1))
		has(t, []api.Note{begins(4, api.Lock), x}, call(4, api.Lock, 0, -1, 0, 1))
	}
	l := append([]api.Note{begins(4, api.Lock)}, points(4)...)
	has(t, l, call(4, api.Lock, 0, -1, 0, 1, 2, 3, 4, 5, 6, 7, 8, 9, 10))
	has(t, append(l, ends(4, api.Lock, api.RetTrue)), call(4, api.Lock, 0, 11, api.RetTrue, 1, 2, 3, 4, 5, 6, 7, 8, 9, 10))
}

// P20.1: other tasks' notes, of whatever What, are no points, and end nothing.
func TestOthersNotes(t *testing.T) {
	for _, other := range []int{0, 3, 5, 63} {
		between := append(points(other), ends(other, api.Lock, api.RetFalse))
		l := append([]api.Note{begins(4, api.Lock)}, between...)
		has(t, l, call(4, api.Lock, 0, -1, 0))
		l = append(l, api.Note{Task: 4, What: api.NAdmit})
		l = append(l, between...)
		l = append(l, ends(4, api.Lock, api.RetTrue))
		has(t, append(l, between...), call(4, api.Lock, 0, len(l)-1, api.RetTrue, 12))
	}
}

// P20.1: points of a task behind its return, ahead of its first call, or between its calls, are of no call.
func TestPointsOutside(t *testing.T) {
	l := history(t,
		"1 admit", "1 call lock", "1 admit", "1 return lock true", "1 present", "1 leave",
		"1 call unlock", "1 leave", "1 return unlock true", "1 pass",
	)
	has(t, l, call(1, api.Lock, 1, 3, api.RetTrue, 2), call(1, api.Unlock, 6, 8, api.RetTrue, 7))
}

// P20.1: a call at the first note, and its return at the last one, of many.
func TestFirstAndLast(t *testing.T) {
	for _, many := range []int{0, 1, 2, 3, 100, 1 << 12} {
		l := []api.Note{begins(63, api.Lock)}
		want := []api.Call{call(63, api.Lock, 0, 1+2*many, api.RetTrue)}
		for range many {
			want = append(want, call(0, api.TryLock, len(l), len(l)+1, api.RetFalse))
			l = append(l, begins(0, api.TryLock), ends(0, api.TryLock, api.RetFalse))
		}
		has(t, append(l, ends(63, api.Lock, api.RetTrue)), want...)
		want[0].To, want[0].Ret = -1, 0
		has(t, l, want...)
	}
}

// P20.1: as many tasks as there may be, all of which are within a call at the same time, and return in another order.
func TestAllTasks(t *testing.T) {
	var l []api.Note
	var want []api.Call
	for task := range 64 {
		want = append(want, call(63-task, 1+task%8, len(l), 128+task*37%64, 1+task%3, 64+task))
		l = append(l, begins(63-task, 1+task%8))
	}
	for task := range 64 {
		l = append(l, api.Note{Task: 63 - task, What: api.NAdmit})
	}
	l = append(l, make([]api.Note, 64)...)
	for _, c := range want {
		l[c.To] = ends(c.Task, c.Op, c.Ret)
	}
	has(t, l, want...)
	for i := range want {
		want[i].To, want[i].Ret = -1, 0
	}
	has(t, l[:128], want...)
}

// P20.1: many notes: calls with no point, one, two, and so on.
func TestManyNotes(t *testing.T) {
	var l []api.Note
	var want []api.Call
	for i := range 1000 {
		c := call(i%64, 1+i%8, len(l), len(l)+1+i, 1+i%3)
		l = append(l, begins(c.Task, c.Op))
		for range i {
			c.Points = append(c.Points, len(l))
			l = append(l, api.Note{Task: c.Task, What: api.NPass})
		}
		l = append(l, ends(c.Task, c.Op, c.Ret))
		want = append(want, c)
	}
	has(t, l, want...)
}

// P20.1: 2^20 notes: a call of each two, or one call of all.
func TestMostNotes(t *testing.T) {
	const many = 1 << 20
	var l []api.Note
	var want []api.Call
	for i := range many / 2 {
		want = append(want, call(i%64, api.RLock, len(l), len(l)+1, api.RetTrue))
		l = append(l, begins(i%64, api.RLock), ends(i%64, api.RLock, api.RetTrue))
	}
	has(t, l, want...)
	l = append([]api.Note{begins(7, api.Lock)}, slices.Repeat([]api.Note{{Task: 7, What: api.NPass}}, many-2)...)
	c := call(7, api.Lock, 0, -1, 0)
	for i := range many - 2 {
		c.Points = append(c.Points, 1+i)
	}
	has(t, l, c)
	c.To, c.Ret = many-1, api.RetTrue
	has(t, append(l, ends(7, api.Lock, api.RetTrue)), c)
}
