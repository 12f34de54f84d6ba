package rec_test

import (
	"slices"
	"testing"

	"stileman/api"
	"stileman/rec"
)

// mixed are notes of some calls, right and wrong ones.
func mixed(t *testing.T) []api.Note {
	t.Helper()
	l := history(t, "1 call lock", "0 call rlock", "1 reg write", "1 call lock", "1 admit", "0 reg read", "0 admit", "1 return lock true", "2 call rlock", "2 admit")
	return append(l, api.Note{Task: -1, What: 99, Op: 99}, api.Note{Task: 2}, begins(0, api.Lock), begins(-7, api.Lock))
}

// R4: what is handed in isn't changed, and what lies behind its length plays no part.
func TestHandedIn(t *testing.T) {
	for i := range len(mixed(t)) + 1 {
		l := mixed(t)
		tight := slices.Clone(l[:i:i])
		want, pending := rec.Calls(tight), rec.Pending(tight)
		at, e := rec.Check(3, tight)
		has(t, l[:i], want...)
		pends(t, l[:i], pending...)
		fails(t, 3, l[:i], at, e)
		if !slices.Equal(l, mixed(t)) || !slices.Equal(tight, l[:i]) {
			t.Fatalf("the notes are %+v", l)
		}
	}
	a, b := call(1, api.Lock, 2, 5, api.RetTrue, 3, 4), call(2, api.RLock, 6, -1, 0, 7)
	rec.Overlap(a, b)
	if !alike(a, call(1, api.Lock, 2, 5, api.RetTrue, 3, 4)) || !alike(b, call(2, api.RLock, 6, -1, 0, 7)) {
		t.Errorf("the calls are %+v and %+v", a, b)
	}
}

// R4: what is handed in may be written over behind a call, and so may what is answered: nothing else changes by it.
func TestWrittenOver(t *testing.T) {
	l := mixed(t)
	got, want := rec.Calls(l), rec.Calls(l)
	tasks, wanted := rec.Pending(l), rec.Pending(l)
	clear(l)
	if !slices.EqualFunc(got, want, alike) || !slices.Equal(tasks, wanted) {
		t.Fatalf("the answers hang on what was handed in: %+v, %v", got, tasks)
	}
	for i := range got {
		// Up to the capacity, for an append may write there.
		whole := got[i].Points[:cap(got[i].Points)]
		for k := range whole {
			whole[k] = -99
		}
		got[i] = api.Call{}
		if i+1 < len(got) && !slices.EqualFunc(got[i+1:], want[i+1:], alike) {
			t.Fatalf("the calls behind %d are %+v", i, got[i+1:])
		}
	}
	for i := range tasks {
		tasks[i] = -99
	}
	has(t, mixed(t), want...)
	pends(t, mixed(t), wanted...)
}

// R3, R7a: lists without elements are the same thing as nil ones.
func TestNilAndEmpty(t *testing.T) {
	for _, c := range rec.Calls(history(t, "0 call rlock", "0 return rlock true", "1 call lock")) {
		if len(c.Points) != 0 {
			t.Errorf("%+v", c)
		}
	}
	if len(rec.Calls([]api.Note{{}})) != 0 || len(rec.Pending([]api.Note{{}})) != 0 {
		t.Error("notes of no call")
	}
	if !rec.Overlap(api.Call{Points: []int{}}, api.Call{}) {
		t.Error("calls without points")
	}
}

// R6: the same call has the same answer, each time.
func TestSameAnswer(t *testing.T) {
	var l []api.Note
	for task := range 64 {
		l = append(l, begins(task*29%64, api.Lock), begins(-task, api.RLock), api.Note{Task: task})
	}
	calls, tasks := rec.Calls(l), rec.Pending(l)
	if len(calls) != 128 || len(tasks) != 127 {
		t.Fatalf("%d calls, %d tasks", len(calls), len(tasks))
	}
	for range 100 {
		has(t, l, calls...)
		pends(t, l, tasks...)
		fails(t, 64, l, 1, api.ErrOrder)
	}
}
