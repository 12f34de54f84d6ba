package world_test

import (
	"slices"
	"strings"
	"testing"

	"stileman/acc"
	"stileman/api"
	"stileman/cells"
	"stileman/note"
	"stileman/world"
)

// made makes a world.
func made(t *testing.T, kind, mode, n int, base uint32) *world.World {
	t.Helper()
	w, e := world.New(kind, mode, n, base)
	if w == nil || e != api.OK {
		t.Fatalf("the kind %d, the mode %d, %d tasks, the base %x: %v", kind, mode, n, base, e)
	}
	return w
}

// each calls do with a world of each kind, in each mode, and from some bases.
func each(t *testing.T, n int, do func(w *world.World)) {
	t.Helper()
	for _, kind := range kinds() {
		for _, mode := range modes() {
			for _, base := range []uint32{0, 5, top} {
				do(made(t, kind, mode, n, base))
			}
		}
	}
}

// same tells whether two states are alike.
func same(a, b api.State) bool {
	return a.Kind == b.Kind && a.Mode == b.Mode && a.N == b.N && slices.Equal(a.Cells, b.Cells) && slices.Equal(a.Tasks, b.Tasks)
}

// stuckIn tells whether the task is stuck in the state: it waits for its permit, and that isn't there.
func stuckIn(s api.State, task int) bool {
	f := s.Tasks[task].Frame
	return s.Mode == api.Parked && f.Op != api.Rest && !f.Wake.On && f.Wait.Stage == 3 && s.Cells[8+3*s.N+task] == 0
}

// tells fails the test, unless N, Hold, Busy and Stuck tell what the state tells.
func tells(t *testing.T, w *world.World, s api.State) {
	t.Helper()
	if w.N() != s.N || len(s.Tasks) != s.N || len(s.Cells) != 8+4*s.N {
		t.Fatalf("there are %d tasks, want %d: %+v", w.N(), s.N, s)
	}
	for i, x := range s.Tasks {
		if w.Hold(i) != x.Hold || w.Busy(i) != x.Frame.Op || w.Stuck(i) != stuckIn(s, i) {
			t.Fatalf("the task %d holds %d, is with %d, and is stuck: %v: %+v", i, w.Hold(i), w.Busy(i), w.Stuck(i), s)
		}
		if x.Frame.Op == api.Rest && x.Frame != (api.Frame{}) {
			t.Fatalf("the task %d is idle, and its frame is %+v", i, x.Frame)
		}
	}
}

// pick does a pick, and fails the test, unless it did what its event tells, and nothing else: one access at most, and nothing at all, if it didn't run.
func pick(t *testing.T, w *world.World, task, op int) api.Event {
	t.Helper()
	ahead := w.State()
	e := w.Pick(api.Pick{Task: task, Op: op})
	behind := w.State()
	tells(t, w, behind)
	m, _ := cells.From(ahead.Cells...)
	if a, _ := m.Do(e.Access); a != e.Access || !slices.Equal(m.All(), behind.Cells) {
		t.Fatalf("the pick %d %d: %+v, and it is %+v, and was %+v", task, op, e, behind, ahead)
	}
	if !e.Ran && (e.Access != (api.Access{}) || len(e.Notes) > 0 || !same(ahead, behind)) {
		t.Fatalf("the pick %d %d ran nothing: %+v, and it is %+v, and was %+v", task, op, e, behind, ahead)
	}
	for i, x := range behind.Tasks {
		if i != task && x != ahead.Tasks[i] {
			t.Fatalf("the pick %d %d: the task %d is %+v, and was %+v", task, op, i, x, ahead.Tasks[i])
		}
	}
	for _, x := range e.Notes {
		if x.Task != task || !note.Right(x) {
			t.Fatalf("the pick %d %d: the note %+v", task, op, x)
		}
	}
	return e
}

// returns answers the result of the operation that ended with the event; RetNone: none did.
func returns(e api.Event) int {
	l := note.Of(e.Notes, -1, api.NReturn)
	if len(l) == 0 {
		return api.RetNone
	}
	return l[0].Arg
}

// goOn picks the task, at first with the operation, until it is idle or stuck, or has had many picks, and answers the operation's result, or RetNone.
func goOn(t *testing.T, w *world.World, task, op int) int {
	t.Helper()
	ret := returns(pick(t, w, task, op))
	for i := 0; w.Busy(task) != api.Rest && !w.Stuck(task) && i < 40+4*w.N(); i++ {
		ret = returns(pick(t, w, task, api.Rest))
	}
	return ret
}

// ends goes on with the task, and fails the test, unless the operation's result is ret.
func ends(t *testing.T, w *world.World, task, op, ret int) {
	t.Helper()
	if got := goOn(t, w, task, op); got != ret {
		t.Fatalf("the operation %d of the task %d: %d, want %d: %+v", op, task, got, ret, w.State())
	}
}

// holds fails the test, unless the tasks hold that.
func holds(t *testing.T, w *world.World, want ...int) {
	t.Helper()
	var got []int
	for i := range w.N() {
		got = append(got, w.Hold(i))
	}
	if !slices.Equal(got, want) {
		t.Fatalf("the tasks hold %v, want %v: %+v", got, want, w.State())
	}
}

// text tells an event: its access (-, if there is none) and its notes; or nothing, if it ran nothing.
func text(e api.Event) string {
	if !e.Ran {
		return "nothing"
	}
	a := "-"
	if e.Access != (api.Access{}) {
		a = acc.Text(e.Access)
	}
	return strings.Join(append([]string{a}, note.Rows(e.Notes...)...), ", ")
}

// script does the picks of the rows, and fails the test, unless what each one does is what its row tells: a task's number, an operation's word or none, a colon, and the event's text.
func script(t *testing.T, w *world.World, rows []string) {
	t.Helper()
	for i, row := range rows {
		p, want, _ := strings.Cut(row, ": ")
		number, word, _ := strings.Cut(p, " ")
		if got := text(pick(t, w, int(number[0]-'0'), note.Number(word))); got != want {
			t.Fatalf("the row %d, the pick %q: %q, want %q", i, p, got, want)
		}
	}
}
