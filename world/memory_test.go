package world_test

import (
	"slices"
	"testing"

	"stileman/api"
	"stileman/world"
)

// ruin writes over all of a state, and behind its lists.
func ruin(s api.State) {
	for i := range s.Cells {
		s.Cells[i] = 0xdead0000 + uint32(i)
	}
	for i := range s.Tasks {
		s.Tasks[i] = api.Task{Hold: write, Frame: api.Frame{Op: api.Unlock, Line: 3, Ret: api.RetTrue}}
	}
	s.Cells = append(s.Cells, 1, 2, 3)
	s.Tasks = append(s.Tasks, api.Task{Hold: write})
}

// spoil writes over all notes, and behind them.
func spoil(l []api.Note) {
	for i := range l {
		l[i] = api.Note{Task: 63, What: api.NReturn, Op: api.Unlock, Arg: api.RetMisuse}
	}
	l = append(l[:cap(l)], api.Note{Task: 62})
	clear(l)
}

// P18.2, R4: who writes over what State, Pick and Run answer changes nothing in the world: all it does and tells is as of one of which nobody has written over anything.
func TestWrittenOver(t *testing.T) {
	for _, kind := range kinds() {
		for _, mode := range modes() {
			for _, n := range []int{1, 2, 64} {
				a, b := made(t, kind, mode, n, 5), made(t, kind, mode, n, 5)
				d, f := dice(3), dice(3)
				for i := range 200 {
					x, y := a.Pick(d.any(a)), b.Pick(f.any(b))
					if text(x) != text(y) {
						t.Fatalf("the kind %d, the mode %d, %d tasks: number %d: %q, want %q", kind, mode, n, i, text(x), text(y))
					}
					spoil(x.Notes)
					l, m := a.Run(d.any(a), d.any(a)), b.Run(f.any(b), f.any(b))
					if !slices.Equal(l, m) {
						t.Fatalf("the kind %d, the mode %d, %d tasks: number %d: %+v, want %+v", kind, mode, n, i, l, m)
					}
					spoil(l)
					ruin(a.State())
					if s := a.State(); !same(s, b.State()) {
						t.Fatalf("the kind %d, the mode %d, %d tasks: number %d: it is %+v, want %+v", kind, mode, n, i, s, b.State())
					}
				}
			}
		}
	}
}

// P18.2, R4: a state stays as it was told, whatever is picked later; two of them share nothing.
func TestStateStays(t *testing.T) {
	each(t, 3, func(w *world.World) {
		d := dice(5)
		var states, copies []api.State
		for range 60 {
			s := w.State()
			states = append(states, s)
			s.Cells, s.Tasks = slices.Clone(s.Cells), slices.Clone(s.Tasks)
			copies = append(copies, s)
			w.Pick(d.any(w))
		}
		for i, s := range states {
			if !same(s, copies[i]) {
				t.Fatalf("the state ahead of the pick %d is %+v, and was %+v", i, s, copies[i])
			}
			ruin(s)
		}
	})
}

// P18.1, R4: an event's notes, and those of a run, stay as they were told, whatever is picked later, and whoever grows those of another one.
func TestNotesStay(t *testing.T) {
	each(t, 3, func(w *world.World) {
		d := dice(6)
		var lists, copies [][]api.Note
		keep := func(l []api.Note) {
			lists = append(lists, l)
			copies = append(copies, slices.Clone(l))
		}
		for range 200 {
			keep(w.Pick(d.any(w)).Notes)
			keep(w.Run(d.any(w), d.any(w)))
		}
		for i, l := range lists {
			if !slices.Equal(l, copies[i]) {
				t.Fatalf("the notes number %d are %+v, and were %+v", i, l, copies[i])
			}
			spoil(l)
		}
	})
}
