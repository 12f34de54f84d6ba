package rec_test

import (
	"math"
	"slices"
	"testing"

	"stileman/api"
	"stileman/note"
)

// twinCalls are the calls of l, sought as the chapter's words tell them, each by itself.
func twinCalls(l []api.Note) []api.Call {
	var calls []api.Call
	for from, x := range l {
		if x.What != api.NCall {
			continue
		}
		c := api.Call{Task: x.Task, Op: x.Op, From: from, To: -1}
		end := len(l)
		for i := from + 1; i < len(l); i++ {
			if l[i].Task == x.Task && l[i].What == api.NReturn {
				c.To, c.Ret, end = i, l[i].Arg, i
				break
			}
		}
		for i := from + 1; i < end; i++ {
			if l[i].Task == x.Task && l[i].What != api.NCall && l[i].What != api.NReturn {
				c.Points = append(c.Points, i)
			}
		}
		calls = append(calls, c)
	}
	return calls
}

// last answers the task's last note of l that is a call or a return.
func last(l []api.Note, task int) api.Note {
	for i := len(l) - 1; i >= 0; i-- {
		if l[i].Task == task && (l[i].What == api.NCall || l[i].What == api.NReturn) {
			return l[i]
		}
	}
	return api.Note{}
}

// twinCheck answers as Check does, by what stands ahead of each note.
func twinCheck(n int, l []api.Note) (int, api.Errno) {
	for i, x := range l {
		within := last(l[:i], x.Task).What == api.NCall
		switch {
		case !note.Right(x):
			return i, api.ErrForm
		case x.Task >= n:
			return i, api.ErrRange
		case x.What == api.NCall && within:
			return i, api.ErrOrder
		case x.What != api.NCall && !within:
			return i, api.ErrOrder
		case x.What == api.NReturn && x.Op != last(l[:i], x.Task).Op:
			return i, api.ErrOrder
		}
	}
	return 0, api.OK
}

// twinPending answers the tasks of l whose last call or return is a call.
func twinPending(l []api.Note) []int {
	var tasks []int
	for _, x := range l {
		if last(l, x.Task).What == api.NCall {
			tasks = append(tasks, x.Task)
		}
	}
	slices.Sort(tasks)
	return slices.Compact(tasks)
}

// held fails the test, unless all calls of the package answer what their twins do.
func held(t *testing.T, n int, l []api.Note) {
	t.Helper()
	has(t, l, twinCalls(l)...)
	at, e := twinCheck(n, l)
	fails(t, n, l, at, e)
	pends(t, l, twinPending(l)...)
}

// P20.1 to P20.3: all lists of up to five of some notes, right and wrong ones.
func TestAllShortLists(t *testing.T) {
	some := []api.Note{
		begins(0, api.RLock), begins(0, api.Lock), begins(1, api.RLock), begins(2, api.Lock),
		ends(0, api.RLock, api.RetTrue), ends(0, api.Lock, api.RetFalse), ends(1, api.RLock, api.RetMisuse),
		{Task: 0, What: api.NAdmit}, {Task: 1, What: api.NReg, Arg: api.HoldRead}, {Task: 0, What: 12}, {Task: 1, What: api.NReturn}, {Task: -1, What: api.NCall, Op: api.RLock},
	}
	var all func(l []api.Note, more int)
	all = func(l []api.Note, more int) {
		held(t, 2, l)
		if more == 0 {
			return
		}
		for _, x := range some {
			all(append(l[:len(l):len(l)], x), more-1)
		}
	}
	all(nil, 5)
}

// anyNote is a note of any fields, most of which are those of a right one.
func (d *dice) anyNote(tasks []int) api.Note {
	field := func(n int) int {
		if d.below(20) == 0 {
			return oneOf(d, ints())
		}
		return d.below(n)
	}
	x := api.Note{Task: oneOf(d, tasks), What: 1 + field(11)}
	if x.What == api.NCall || x.What == api.NReturn || d.below(20) == 0 {
		x.Op = 1 + field(8)
	}
	if x.What == api.NReg || x.What == api.NReturn || d.below(20) == 0 {
		x.Arg = 1 + field(3)
	}
	return x
}

// P20.1 to P20.3: lists of notes by chance, of right tasks and wrong ones.
func TestListsByChance(t *testing.T) {
	d := dice(20)
	for _, tasks := range [][]int{{0}, {0, 1}, {0, 1, 2, 63}, {-1, 0, 1}, {5, 64, math.MinInt, math.MaxInt}, far()} {
		for range 3000 {
			var l []api.Note
			for range d.below(50) {
				x := d.anyNote(tasks)
				// Calls and returns by turns come too seldom by chance alone.
				if d.below(3) == 0 {
					x = begins(x.Task, 1+d.below(8))
					if y := last(l, x.Task); y.What == api.NCall {
						x = ends(x.Task, y.Op, 1+d.below(3))
					}
				}
				l = append(l, x)
			}
			held(t, oneOf(&d, counts()), l)
		}
	}
}

// rightHistory is a history of n tasks, by chance.
func (d *dice) rightHistory(n, long int) []api.Note {
	var l []api.Note
	for range long {
		task := d.below(n)
		y := last(l, task)
		switch {
		case y.What != api.NCall:
			l = append(l, begins(task, oneOf(d, operations())))
		case d.below(3) == 0:
			l = append(l, ends(task, y.Op, oneOf(d, results())))
		default:
			l = append(l, oneOf(d, points(task)))
		}
	}
	return l
}

// P20.1 to P20.3: histories by chance, and such of which one note is another one, is told twice, is left out, or stands elsewhere.
func TestHistoriesByChance(t *testing.T) {
	d := dice(59)
	for range 1500 {
		n := 1 + d.below(8)
		l := d.rightHistory(n, 1+d.below(60))
		passes(t, n, l)
		held(t, n, l)
		held(t, n-1, l)
		at, to := d.below(len(l)), d.below(len(l))
		other := slices.Clone(l)
		other[at] = d.anyNote([]int{0, 1, n - 1, n, 63, 64})
		held(t, n, other)
		held(t, n, slices.Insert(slices.Clone(l), at, l[at]))
		held(t, n, slices.Delete(slices.Clone(l), at, at+1))
		other = slices.Clone(l)
		other[at], other[to] = l[to], l[at]
		held(t, n, other)
		for _, field := range []*int{&other[at].Task, &other[at].What, &other[at].Op, &other[at].Arg} {
			was := *field
			*field = oneOf(&d, ints())
			held(t, n, other)
			*field = was
		}
	}
}

// P20.1 to P20.3: long histories of as many tasks as there may be.
func TestLongHistories(t *testing.T) {
	d := dice(64)
	for range 5 {
		l := d.rightHistory(64, 3000)
		passes(t, 64, l)
		held(t, 64, l)
		held(t, 1+d.below(63), l)
	}
}
