package world_test

import (
	"slices"
	"testing"

	"stileman/api"
	"stileman/cells"
	"stileman/fq"
	"stileman/line"
	"stileman/pf"
	"stileman/place"
	"stileman/pq"
	"stileman/rf"
	"stileman/tf"
	"stileman/wf"
	"stileman/world"
)

// twin is what the chapter tells of a world: its picks are done by these tests, clause by clause.
type twin struct {
	kind, mode, n int
	mem           *cells.Memory
	tasks         []api.Task
}

// twinOf makes the twin of a new world.
func twinOf(kind, mode, n int, base uint32) *twin {
	words, _ := place.First(kind, n, base)
	m, _ := cells.From(words...)
	return &twin{kind: kind, mode: mode, n: n, mem: m, tasks: make([]api.Task, n)}
}

// state is the state that is wanted.
func (x *twin) state() api.State {
	return api.State{Kind: x.kind, Mode: x.mode, N: x.n, Cells: x.mem.All(), Tasks: x.tasks}
}

// pick does the pick, and answers the event that is wanted.
func (x *twin) pick(p api.Pick) api.Event {
	if p.Task < 0 || p.Task >= x.n {
		return api.Event{}
	}
	t := &x.tasks[p.Task]
	var notes []api.Note
	if t.Frame.Op == 0 {
		if !slices.Contains(operations(), p.Op) {
			return api.Event{}
		}
		notes = append(notes, api.Note{Task: p.Task, What: api.NCall, Op: p.Op})
		if !slices.Contains(choices(t.Hold), p.Op) {
			return api.Event{Ran: true, Notes: append(notes, api.Note{Task: p.Task, What: api.NReturn, Op: p.Op, Arg: api.RetMisuse})}
		}
		*t = api.Task{Hold: heldAt(p.Op, t.Hold), Frame: api.Frame{Op: p.Op}}
	} else if stuckIn(x.state(), p.Task) {
		return api.Event{}
	}
	r := line.Run{Mem: x.mem, Map: place.Map{N: x.n}, Mode: x.mode, Task: p.Task, Frame: t.Frame}
	over := r.Step(x.lines())
	notes = append(notes, r.Notes...)
	t.Frame = r.Frame
	if over {
		op, ret := r.Frame.Op, r.Frame.Ret
		notes = append(notes, api.Note{Task: p.Task, What: api.NReturn, Op: op, Arg: ret})
		if ret == api.RetTrue {
			t.Hold = heldBehind(op, t.Hold)
		}
		t.Frame = api.Frame{}
	}
	return api.Event{Ran: true, Access: r.Access, Notes: notes}
}

// lines are those of the twin's kind.
func (x *twin) lines() func(r *line.Run) {
	return map[int]func(r *line.Run){1: tf.Lines, 2: pf.Lines, 3: pq.Lines, 4: fq.Lines, 5: rf.Lines, 6: wf.Lines}[x.kind]
}

// any answers a pick by chance: mostly of a task that is there, and with an operation that it may begin, if it holds that.
func (d *dice) any(w *world.World) api.Pick {
	task := d.below(w.N())
	switch d.below(8) {
	case 0:
		l := noTasks(w.N())
		task = l[d.below(len(l))]
	case 1:
		l := noOperations()
		return api.Pick{Task: task, Op: l[d.below(len(l))]}
	case 2, 3:
		return api.Pick{Task: task, Op: d.below(9)}
	}
	l := choices(w.Hold(task))
	return api.Pick{Task: task, Op: l[d.below(len(l))]}
}

// P18.1, P18.2, P18.3: of each kind, in each mode, of some numbers of tasks and from some bases: what each pick does, and its event, and the state behind it, is what the chapter tells.
func TestTwin(t *testing.T) {
	d := dice(1)
	for _, n := range counts() {
		for _, kind := range kinds() {
			for _, mode := range modes() {
				for _, base := range bases() {
					w, x := made(t, kind, mode, n, base), twinOf(kind, mode, n, base)
					for i := range 300 {
						p := d.any(w)
						want := x.pick(p)
						got := pick(t, w, p.Task, p.Op)
						if got.Ran != want.Ran || got.Access != want.Access || !slices.Equal(got.Notes, want.Notes) {
							t.Fatalf("the kind %d, the mode %d, %d tasks, the base %x: number %d, the pick %+v: %+v, want %+v", kind, mode, n, base, i, p, got, want)
						}
						if s := w.State(); !same(s, x.state()) {
							t.Fatalf("the kind %d, the mode %d, %d tasks, the base %x: behind number %d, the pick %+v, it is %+v, want %+v", kind, mode, n, base, i, p, s, x.state())
						}
					}
				}
			}
		}
	}
}
