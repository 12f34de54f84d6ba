package world_test

import (
	"slices"
	"testing"

	"stileman/api"
	"stileman/world"
)

// held tells how many tasks hold that.
func held(w *world.World, hold int) int {
	many := 0
	for i := range w.N() {
		if w.Hold(i) == hold {
			many++
		}
	}
	return many
}

// excludes fails the test, if a task holds write while another one holds anything.
func excludes(t *testing.T, w *world.World) {
	t.Helper()
	if held(w, write) > 0 && held(w, none) < w.N()-1 {
		t.Fatalf("%d hold write, and %d hold read: %+v", held(w, write), held(w, read), w.State())
	}
}

// leave goes round all tasks, each of which begins nothing but what gives up what it holds, until all are idle, and none holds anything.
func leave(t *testing.T, w *world.World) {
	t.Helper()
	// These are more rounds than chapter 24's bound takes, if each round picks each task, and each that holds leaves at its next pick.
	for range (w.N() + 2) * (8*w.N() + 60) {
		for task := range w.N() {
			w.Pick(api.Pick{Task: task, Op: leaving(w.Hold(task))})
			excludes(t, w)
		}
		if held(w, none) == w.N() && idle(w) {
			return
		}
	}
	t.Fatalf("they don't get through: %+v", w.State())
}

// idle tells whether all tasks are idle.
func idle(w *world.World) bool {
	for i := range w.N() {
		if w.Busy(i) != api.Rest {
			return false
		}
	}
	return true
}

// P2, P4, P18.1: crowds of each kind, in each mode: while one holds write no other one holds anything; some read at the same time; somebody isn't stuck at any time; and all get through, once no more come.
func TestCrowds(t *testing.T) {
	d := dice(2)
	for _, n := range []int{1, 2, 3, 6} {
		each(t, n, func(w *world.World) {
			together, alone := 0, 0
			for range 5000 {
				p := d.any(w)
				pick(t, w, p.Task, p.Op)
				excludes(t, w)
				if held(w, read) > 1 {
					together++
				}
				alone += held(w, write)
				if !slices.ContainsFunc(tasksOf(w), func(i int) bool { return !w.Stuck(i) }) {
					t.Fatalf("all are stuck: %+v", w.State())
				}
			}
			leave(t, w)
			if (together == 0) != (n == 1) || alone == 0 {
				t.Errorf("%d tasks: some read together %d times, one writes %d times: %+v", n, together, alone, w.State())
			}
		})
	}
}

// greatest calls do with a world of each kind, in each mode, of as many tasks as there may be.
func greatest(t *testing.T, do func(w *world.World)) {
	t.Helper()
	for _, kind := range kinds() {
		for _, mode := range modes() {
			do(made(t, kind, mode, 64, top))
		}
	}
}

// P2, P4: crowds of as many tasks as there may be.
func TestGreatCrowds(t *testing.T) {
	d := dice(4)
	greatest(t, func(w *world.World) {
		for range 6000 {
			w.Pick(d.any(w))
			excludes(t, w)
		}
		leave(t, w)
	})
}

// tasksOf are the numbers of the tasks.
func tasksOf(w *world.World) []int {
	var l []int
	for i := range w.N() {
		l = append(l, i)
	}
	return l
}

// P18.1: as many tasks as there may be, all of which want to write: each waits until the one ahead of it has left, up to the last one.
func TestSixtyFourWriters(t *testing.T) {
	greatest(t, func(w *world.World) {
		ends(t, w, 0, api.Lock, api.RetTrue)
		for task := 1; task < 64; task++ {
			ends(t, w, task, api.Lock, api.RetNone)
		}
		for task := range 63 {
			ends(t, w, task, api.Unlock, api.RetTrue)
			if w.Busy(63) != api.Lock || w.Hold(task) != none {
				t.Fatalf("the last one is with %d: %+v", w.Busy(63), w.State())
			}
			ends(t, w, task+1, api.Rest, api.RetTrue)
			if w.Hold(task+1) != write || held(w, none) != 63 {
				t.Fatalf("the task %d: %+v", task+1, w.State())
			}
		}
		ends(t, w, 63, api.Unlock, api.RetTrue)
		if !idle(w) || held(w, none) != 64 {
			t.Errorf("in the end: %+v", w.State())
		}
	})
}

// P18.1: as many tasks as there may be, all of which read at once.
func TestSixtyFourReaders(t *testing.T) {
	greatest(t, func(w *world.World) {
		for task := range 64 {
			ends(t, w, 63-task, api.RLock, api.RetTrue)
		}
		if held(w, read) != 64 {
			t.Errorf("%d read: %+v", held(w, read), w.State())
		}
		for task := range 64 {
			ends(t, w, task, api.RUnlock, api.RetTrue)
		}
		ends(t, w, 63, api.TryLock, api.RetTrue)
		ends(t, w, 0, api.TryRLock, api.RetFalse)
	})
}
