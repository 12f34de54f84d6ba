package rec_test

import (
	"slices"
	"testing"

	"stileman/api"
	"stileman/note"
	"stileman/rec"
	"stileman/world"
)

// kinds are all kinds of locks.
func kinds() []int {
	return []int{api.TaskFair, api.PhaseFair, api.PhaseQueue, api.FairQueue, api.ReadersFirst, api.WritersFirst}
}

// made makes a world.
func made(t *testing.T, kind, mode, n int) *world.World {
	t.Helper()
	w, e := world.New(kind, mode, n, 0xffffffff)
	if e != api.OK {
		t.Fatalf("the kind %d, the mode %d, %d tasks: %v", kind, mode, n, e)
	}
	return w
}

// each calls do with a world of each kind, in each mode.
func each(t *testing.T, n int, do func(w *world.World)) {
	t.Helper()
	for _, kind := range kinds() {
		for _, mode := range []int{api.Spin, api.Parked} {
			do(made(t, kind, mode, n))
		}
	}
}

// watch is a world whose operations are written down as they begin and end, by what it tells of its tasks, and not by its notes' Whats.
type watch struct {
	*world.World
	notes []api.Note
	calls []api.Call
}

// pick does a pick, and writes down what it began, did and ended.
func (w *watch) pick(t *testing.T, p api.Pick) {
	t.Helper()
	was := w.Busy(p.Task)
	e := w.Pick(p)
	if !e.Ran {
		return
	}
	first, end := len(w.notes), len(w.notes)+len(e.Notes)
	if was == api.Rest {
		w.calls = append(w.calls, call(p.Task, p.Op, first, -1, 0))
		first++
	}
	i := w.open(p.Task)
	if w.Busy(p.Task) == api.Rest {
		end--
		w.calls[i].To, w.calls[i].Ret = end, e.Notes[len(e.Notes)-1].Arg
	}
	for k := first; k < end; k++ {
		w.calls[i].Points = append(w.calls[i].Points, k)
	}
	w.notes = append(w.notes, e.Notes...)
}

// open answers the place of the task's last call.
func (w *watch) open(task int) int {
	i := len(w.calls) - 1
	for w.calls[i].Task != task {
		i--
	}
	return i
}

// busy answers the tasks that are with an operation, rising.
func (w *watch) busy() []int {
	var l []int
	for task := range w.N() {
		if w.Busy(task) != api.Rest {
			l = append(l, task)
		}
	}
	return l
}

// anyPick is a pick of any task, most often with an operation that it may begin.
func (d *dice) anyPick(w *world.World) api.Pick {
	task := d.below(w.N())
	if d.below(10) == 0 {
		return api.Pick{Task: task, Op: d.below(10)}
	}
	switch w.Hold(task) {
	case api.HoldRead:
		return api.Pick{Task: task, Op: oneOf(d, []int{api.RUnlock, api.RUnlock, api.TryUpgrade})}
	case api.HoldWrite:
		return api.Pick{Task: task, Op: oneOf(d, []int{api.Unlock, api.Unlock, api.Downgrade})}
	}
	return api.Pick{Task: task, Op: oneOf(d, []int{api.RLock, api.RLock, api.Lock, api.TryRLock, api.TryLock})}
}

// P20.1 to P20.3, P2: what a world's notes tell is a history; its calls are the operations that were begun; and those that are with one are within a call, behind each pick.
func TestWorlds(t *testing.T) {
	d := dice(18)
	for _, n := range []int{1, 2, 3, 7} {
		each(t, n, func(w *world.World) {
			x := &watch{World: w}
			for range 600 {
				x.pick(t, d.anyPick(w))
				pends(t, x.notes, x.busy()...)
				passes(t, n, x.notes)
			}
			has(t, x.notes, x.calls...)
			if len(x.calls) < 20 {
				t.Errorf("only %d calls", len(x.calls))
			}
		})
	}
}

// P20.1 to P20.3: worlds of as many tasks as there may be.
func TestGreatWorlds(t *testing.T) {
	d := dice(640)
	each(t, 64, func(w *world.World) {
		x := &watch{World: w}
		for i := range 20000 {
			x.pick(t, d.anyPick(w))
			if i%1000 == 0 {
				pends(t, x.notes, x.busy()...)
				has(t, x.notes, x.calls...)
			}
		}
		has(t, x.notes, x.calls...)
		pends(t, x.notes, x.busy()...)
		passes(t, 64, x.notes)
		first := slices.IndexFunc(x.notes, func(y api.Note) bool { return y.Task == 63 })
		fails(t, 63, x.notes, first, api.ErrRange)
	})
}

// P20.1, P20.2, P2: each of a world's notes is the call of one call, the return of one, or a point of one; and of each call the points lie between.
func TestEachNoteOnce(t *testing.T) {
	d := dice(3)
	each(t, 4, func(w *world.World) {
		var picks []api.Pick
		for range 3000 {
			picks = append(picks, api.Pick{Task: d.below(4), Op: 1 + d.below(8)})
		}
		l := w.Run(picks...)
		passes(t, 4, l)
		told := make([]int, len(l))
		for _, c := range rec.Calls(l) {
			if c.To >= 0 {
				told[c.To]++
			}
			told[c.From]++
			for _, p := range c.Points {
				told[p]++
				if p <= c.From || c.To >= 0 && p >= c.To || l[p].Task != c.Task {
					t.Fatalf("the point %d of %+v is %+v", p, c, l[p])
				}
			}
		}
		if slices.ContainsFunc(told, func(many int) bool { return many != 1 }) {
			t.Fatalf("the notes are told %v times", told)
		}
	})
}

// P20.1, P20.3: calls of a world that return misuse have no points, and overlap with no other call but those that are under way around them.
func TestMisuseInWorlds(t *testing.T) {
	each(t, 2, func(w *world.World) {
		w.Pick(api.Pick{Task: 0, Op: api.Lock})
		for w.Hold(0) != api.HoldWrite {
			w.Pick(api.Pick{Task: 0})
		}
		for w.Busy(0) != api.Rest {
			w.Pick(api.Pick{Task: 0})
		}
		l := w.Run(api.Pick{Task: 0, Op: api.RUnlock}, api.Pick{Task: 1, Op: api.Unlock}, api.Pick{Task: 0, Op: api.Lock})
		has(t, l, call(0, api.RUnlock, 0, 1, api.RetMisuse), call(1, api.Unlock, 2, 3, api.RetMisuse), call(0, api.Lock, 4, 5, api.RetMisuse))
		passes(t, 2, l)
		pends(t, l)
		c := rec.Calls(l)
		for i := range c {
			for k := range c {
				if rec.Overlap(c[i], c[k]) != (i == k) {
					t.Errorf("Overlap of %+v and %+v", c[i], c[k])
				}
			}
		}
	})
}

// P20.1 to P20.3: one writes, and a reader waits: the notes, as the README and the chapters of the task-fair lock tell them.
func TestTaskFairWorld(t *testing.T) {
	w := made(t, api.TaskFair, api.Spin, 2)
	var l []api.Note
	goOn := func(task, op int, many int) {
		l = append(l, w.Run(api.Pick{Task: task, Op: op})...)
		for range many {
			l = append(l, w.Run(api.Pick{Task: task})...)
		}
	}
	goOn(0, api.Lock, 5)
	goOn(1, api.RLock, 5)
	pends(t, l, 1)
	goOn(0, api.Unlock, 5)
	goOn(1, api.Rest, 5)
	rows := note.Rows(l...)
	want := []string{
		"0 call lock", "0 reg write", "0 admit", "0 return lock true",
		"1 call rlock", "1 reg read",
		"0 call unlock", "0 leave", "0 pass", "0 return unlock true",
		"1 admit", "1 return rlock true",
	}
	if !slices.Equal(rows, want) {
		t.Fatalf("the notes are %q", rows)
	}
	has(t, l,
		call(0, api.Lock, 0, 3, api.RetTrue, 1, 2),
		call(1, api.RLock, 4, 11, api.RetTrue, 5, 10),
		call(0, api.Unlock, 6, 9, api.RetTrue, 7, 8),
	)
	passes(t, 2, l)
	fails(t, 1, l, 4, api.ErrRange)
	pends(t, l)
	c := rec.Calls(l)
	if rec.Overlap(c[0], c[1]) || !rec.Overlap(c[1], c[2]) || rec.Overlap(c[0], c[2]) {
		t.Errorf("Overlap of %+v", c)
	}
}
