package rec_test

import (
	"math"
	"testing"

	"stileman/api"
)

// counts are numbers of tasks, right and wrong ones.
func counts() []int {
	return []int{math.MinInt, math.MinInt + 1, math.MinInt32, -64, -2, -1, 0, 1, 2, 3, 5, 62, 63, 64, 65, 66, 128, 256, 1 << 31, 1 << 32, math.MaxInt - 1, math.MaxInt}
}

// P20.2: no note is a history of any number of tasks.
func TestCheckNothing(t *testing.T) {
	for _, n := range counts() {
		passes(t, n, nil)
		passes(t, n, []api.Note{})
	}
}

// P20.2: the chapter's example is a history of one task, and of more.
func TestCheckExample(t *testing.T) {
	l := history(t, "0 call rlock", "0 return rlock true")
	for _, n := range counts() {
		if n > 0 {
			passes(t, n, l)
			passes(t, n, l[:1])
		} else {
			fails(t, n, l, 0, api.ErrRange)
			fails(t, n, l[:1], 0, api.ErrRange)
		}
	}
}

// P20.2: each operation, with each result, and all notes between.
func TestCheckEachOperation(t *testing.T) {
	for _, task := range []int{0, 1, 62, 63} {
		for _, op := range operations() {
			for _, ret := range results() {
				l := []api.Note{begins(task, op), ends(task, op, ret), begins(task, op)}
				l = append(l, points(task)...)
				l = append(l, points(task)...)
				l = append(l, ends(task, op, ret), begins(task, op))
				for i := range len(l) + 1 {
					passes(t, task+1, l[:i])
					passes(t, 64, l[:i])
				}
				fails(t, task, l, 0, api.ErrRange)
			}
		}
	}
}

// P20.2: calls of several tasks in each other's way; and each list that it begins with is a history, too.
func TestCheckInEachOthersWay(t *testing.T) {
	l := history(t,
		"1 call lock", "0 call trylock", "1 reg write", "0 refuse", "2 call rlock", "0 return trylock false",
		"2 reg read", "1 present", "0 call rlock", "1 admit", "1 return lock true", "0 reg read", "1 call unlock",
		"1 leave", "2 admit", "0 admit", "1 pass", "2 return rlock true", "1 return unlock true",
	)
	for i := range len(l) + 1 {
		passes(t, 3, l[:i])
	}
	fails(t, 2, l, 4, api.ErrRange)
	fails(t, 1, l, 0, api.ErrRange)
	passes(t, 2, l[:4])
	fails(t, 0, l, 0, api.ErrRange)
}

// P20.2: Check doesn't ask what a kind's rule says: only whether each task does one thing at a time.
func TestCheckNoRule(t *testing.T) {
	passes(t, 2, history(t,
		"0 call unlock", "0 return unlock true", "0 call lock", "0 return lock false", "0 call runlock", "0 up", "0 refuse", "0 admit", "0 return runlock misuse",
		"1 call lock", "0 call lock", "0 admit", "1 admit", "1 return lock true", "0 return lock true",
	))
}

// P20.2: a task that is below n, n, and above it.
func TestCheckRange(t *testing.T) {
	for _, n := range counts() {
		for task := range 64 {
			l := []api.Note{begins(task, api.Lock), {Task: task, What: api.NAdmit}, ends(task, api.Lock, api.RetTrue)}
			if task < n {
				passes(t, n, l)
			} else {
				fails(t, n, l, 0, api.ErrRange)
			}
			if n > 0 {
				own := []api.Note{begins(0, api.Lock), ends(0, api.Lock, api.RetTrue), begins(min(n, 64)-1, api.RLock), ends(min(n, 64)-1, api.RLock, api.RetTrue)}
				if task < n {
					passes(t, n, append(own, l...))
				} else {
					fails(t, n, append(own, l...), 4, api.ErrRange)
				}
			}
		}
	}
}

// P20.2: as many tasks as there may be, all within a call at the same time.
func TestCheckAllTasks(t *testing.T) {
	var l []api.Note
	for task := range 64 {
		l = append(l, begins(task, 1+task%8))
	}
	for task := range 64 {
		l = append(l, points(63-task)...)
	}
	for task := range 64 {
		l = append(l, ends(task*37%64, 1+task*37%64%8, 1+task%3))
	}
	passes(t, 64, l)
	passes(t, math.MaxInt, l)
	for n := range 64 {
		fails(t, n, l, n, api.ErrRange)
	}
	for task := range 64 {
		fails(t, 64, append(l[:64:64], begins(task, api.RLock)), 64, api.ErrOrder)
		fails(t, 64, append(l[:64:64], ends(task, 1+(task+1)%8, api.RetTrue)), 64, api.ErrOrder)
		passes(t, 64, append(l[:64:64], ends(task, 1+task%8, api.RetTrue), begins(task, api.RLock)))
		fails(t, 64, append(l[:len(l):len(l)], api.Note{Task: task, What: api.NAdmit}), len(l), api.ErrOrder)
		passes(t, 64, append(l[:len(l):len(l)], begins(task, api.RLock)))
	}
}

// P20.2: many notes, and a wrong one behind them.
func TestCheckMany(t *testing.T) {
	const many = 1 << 18
	var l []api.Note
	for i := range many {
		task, op := i%64, 1+i%7
		l = append(l, begins(task, op), api.Note{Task: task, What: api.NUp}, api.Note{Task: task, What: api.NDown}, ends(task, op, 1+i%3))
	}
	passes(t, 64, l)
	fails(t, 63, l, 4*63, api.ErrRange)
	fails(t, 64, append(l, ends(0, api.RLock, api.RetTrue)), 4*many, api.ErrOrder)
	fails(t, 64, append(l, api.Note{}), 4*many, api.ErrForm)
	passes(t, 64, append(l, begins(63, api.RLock)))
}
