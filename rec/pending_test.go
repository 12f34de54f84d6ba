package rec_test

import (
	"math"
	"slices"
	"testing"

	"stileman/api"
)

// P20.3: nobody is within a call.
func TestPendingNobody(t *testing.T) {
	pends(t, nil)
	pends(t, []api.Note{})
	pends(t, history(t, "0 call rlock", "0 return rlock true"))
	pends(t, history(t, "0 call rlock", "1 call lock", "0 return rlock true", "1 return lock true", "1 call unlock", "1 return unlock misuse"))
	pends(t, make([]api.Note, 50))
	pends(t, points(3))
}

// P20.3: one is, of each operation and task, with no point behind its call, or with some.
func TestPendingOne(t *testing.T) {
	for task := range 64 {
		for _, op := range operations() {
			l := []api.Note{begins(task, op)}
			pends(t, l, task)
			l = append(l, points(task)...)
			pends(t, l, task)
			l = append(l, points((task+1)%64)...)
			pends(t, l, task)
			pends(t, append(l, ends(task, op, api.RetTrue)))
			pends(t, append(l, ends((task+1)%64, op, api.RetTrue)), task)
			pends(t, append(l, ends(task, op, api.RetFalse), begins(task, op)), task)
		}
	}
}

// P20.3: some are: those whose last call has no return behind it, rising, whatever the order in which they called.
func TestPendingSome(t *testing.T) {
	l := history(t,
		"9 call lock", "5 call rlock", "7 call runlock", "5 return rlock true", "63 call lock", "5 call upgrade",
		"10 call rlock", "7 return runlock true", "0 call rlock", "9 return lock true", "2 call unlock", "2 return unlock misuse", "9 call downgrade",
	)
	pends(t, l, 0, 5, 9, 10, 63)
	for i, want := range [][]int{{}, {9}, {5, 9}, {5, 7, 9}, {7, 9}, {7, 9, 63}, {5, 7, 9, 63}, {5, 7, 9, 10, 63}, {5, 9, 10, 63}, {0, 5, 9, 10, 63}, {0, 5, 10, 63}, {0, 2, 5, 10, 63}, {0, 5, 10, 63}} {
		pends(t, l[:i], want...)
	}
}

// P20.3: all are, and then one less each, in several orders.
func TestPendingAll(t *testing.T) {
	var all []int
	for task := range 64 {
		all = append(all, task)
	}
	for _, by := range []int{1, 63, 37, 11} {
		var l []api.Note
		for i := range 64 {
			l = append(l, begins(i*by%64, api.Lock))
		}
		pends(t, l, all...)
		within := slices.Clone(all)
		for i := range 64 {
			task := i * 5 % 64
			l = append(l, ends(task, api.Lock, api.RetTrue))
			within = slices.DeleteFunc(within, func(x int) bool { return x == task })
			pends(t, l, within...)
		}
	}
}

// P20.3: a task that is within a call at the end of many, its first note or its last one.
func TestPendingBehindMany(t *testing.T) {
	var l []api.Note
	for i := range 1 << 17 {
		l = append(l, begins(i%63, api.RLock), ends(i%63, api.RLock, api.RetTrue))
	}
	pends(t, l)
	pends(t, append(l, begins(63, api.Lock)), 63)
	pends(t, append(l, begins(0, api.Lock)), 0)
	pends(t, append([]api.Note{begins(63, api.Lock)}, l...), 63)
	pends(t, append([]api.Note{begins(63, api.Lock)}, append(l, begins(30, api.RLock))...), 30, 63)
}

// P20.3: of notes that aren't right, each plays its part by its task and its What: any number is a task.
func TestPendingOfAnyTask(t *testing.T) {
	var l []api.Note
	for _, task := range ints() {
		l = append(l, begins(task, api.Lock))
		pends(t, []api.Note{begins(task, api.Lock)}, task)
		pends(t, []api.Note{begins(task, api.Lock), ends(task, api.Lock, api.RetTrue)})
		for _, other := range ints() {
			if other != task {
				pends(t, []api.Note{begins(task, api.Lock), ends(other, api.Lock, api.RetTrue)}, task)
				pends(t, []api.Note{begins(task, api.Lock), begins(other, api.RLock)}, min(task, other), max(task, other))
			}
		}
	}
	want := ints()
	slices.Sort(want)
	pends(t, l, want...)
	pends(t, []api.Note{begins(math.MaxInt, 1), begins(0, 1), begins(math.MinInt, 1), begins(-1, 1)}, math.MinInt, -1, 0, math.MaxInt)
}

// P20.3: a call and a return of any Op and Arg are one; a note of another What is none.
func TestPendingOfAnyFields(t *testing.T) {
	for _, x := range ints() {
		pends(t, []api.Note{{Task: 3, What: api.NCall, Op: x, Arg: x}}, 3)
		pends(t, []api.Note{begins(3, api.Lock), {Task: 3, What: api.NReturn, Op: x, Arg: x}})
		pends(t, []api.Note{begins(3, api.Lock), ends(3, x, api.RetTrue)})
		pends(t, []api.Note{begins(3, api.Lock), ends(3, api.Lock, x)})
		pends(t, []api.Note{begins(3, x), ends(3, api.Lock, api.RetTrue), begins(2, x)}, 2)
		if x != api.NCall && x != api.NReturn {
			pends(t, []api.Note{{Task: 3, What: x, Op: api.Lock}})
			pends(t, []api.Note{begins(3, api.Lock), {Task: 3, What: x, Op: api.Lock, Arg: api.RetTrue}}, 3)
			pends(t, []api.Note{begins(3, api.Lock), ends(3, api.Lock, api.RetTrue), {Task: 3, What: x, Op: api.Lock}})
		}
	}
}

// P20.3: several calls of a task with no return between, which it is within once, and which one return ends; returns without a call.
func TestPendingOutOfOrder(t *testing.T) {
	l := history(t, "1 call lock", "1 call rlock", "1 call lock", "0 return lock true", "0 return lock true", "1 admit")
	pends(t, l, 1)
	pends(t, append(l, begins(0, api.Lock)), 0, 1)
	pends(t, append(l, ends(1, api.RLock, api.RetTrue)))
	pends(t, append(l, ends(1, api.RLock, api.RetTrue), ends(1, api.RLock, api.RetTrue), begins(1, api.Lock)), 1)
	pends(t, slices.Repeat([]api.Note{begins(4, api.Lock)}, 1000), 4)
	pends(t, append(slices.Repeat([]api.Note{begins(4, api.Lock)}, 1000), ends(4, api.Lock, api.RetTrue)))
	pends(t, append(slices.Repeat([]api.Note{ends(4, api.Lock, api.RetTrue)}, 1000), begins(4, api.Lock)), 4)
}

// P20.3: very many tasks, that can't be, each once and rising.
func TestPendingVeryMany(t *testing.T) {
	var l []api.Note
	var want []int
	for i := range 1 << 14 {
		l = append(l, begins((i*5+3)%(1<<14)-1<<13, api.Lock))
		want = append(want, i-1<<13)
	}
	pends(t, l, want...)
	pends(t, append(l, l...), want...)
}
