package world_test

import (
	"slices"
	"testing"

	"stileman/api"
	"stileman/note"
	"stileman/world"
)

// P18.1: Run of no picks, and of such as do nothing: no notes, and nothing is done.
func TestRunNothing(t *testing.T) {
	each(t, 2, func(w *world.World) {
		ends(t, w, 0, api.RLock, api.RetTrue)
		ahead := w.State()
		for _, l := range [][]api.Pick{nil, {}, {{Task: 2, Op: api.Lock}}, {{Task: -1, Op: api.Lock}, {Task: 0}, {Task: 1}, {Task: 1, Op: 9}, {Task: 64}}} {
			if got := w.Run(l...); len(got) > 0 || !same(w.State(), ahead) {
				t.Errorf("the picks %+v: %+v, and it is %+v, and was %+v", l, got, w.State(), ahead)
			}
		}
		if got := w.Run(); len(got) > 0 || !same(w.State(), ahead) {
			t.Errorf("no picks: %+v, and it is %+v, and was %+v", got, w.State(), ahead)
		}
	})
}

// P18.1: Run of one pick, of each operation: its notes.
func TestRunOne(t *testing.T) {
	for _, kind := range kinds() {
		for _, mode := range modes() {
			for op := -1; op <= 9; op++ {
				a, b := made(t, kind, mode, 2, 5), made(t, kind, mode, 2, 5)
				got, want := a.Run(api.Pick{Task: 1, Op: op}), pick(t, b, 1, op).Notes
				if !slices.Equal(got, want) || !same(a.State(), b.State()) {
					t.Errorf("the kind %d, the operation %d: %+v, want %+v", kind, op, got, want)
				}
			}
		}
	}
}

// P18.1: Run of many picks, at once and in pieces: the notes of the picks one by one, in their order, and the same state behind them.
func TestRunMany(t *testing.T) {
	d := dice(1)
	for _, n := range []int{1, 2, 3, 64} {
		for _, kind := range kinds() {
			for _, mode := range modes() {
				a, b, c := made(t, kind, mode, n, top), made(t, kind, mode, n, top), made(t, kind, mode, n, top)
				var l []api.Pick
				var want []api.Note
				for range 1000 {
					p := d.any(b)
					l = append(l, p)
					want = append(want, pick(t, b, p.Task, p.Op).Notes...)
				}
				if got := a.Run(l...); !slices.Equal(got, want) || !same(a.State(), b.State()) {
					t.Fatalf("the kind %d, the mode %d, %d tasks: %+v, want %+v", kind, mode, n, got, want)
				}
				var got []api.Note
				for rest := l; len(rest) > 0; {
					k := min(1+d.below(40), len(rest))
					got = append(got, c.Run(rest[:k]...)...)
					rest = rest[k:]
				}
				if !slices.Equal(got, want) || !same(c.State(), b.State()) {
					t.Fatalf("the kind %d, the mode %d, %d tasks, in pieces: %+v, want %+v", kind, mode, n, got, want)
				}
			}
		}
	}
}

// P18.1: a run of two tasks, of which one waits, and is woken: all notes.
func TestRunWoken(t *testing.T) {
	w := made(t, api.ReadersFirst, api.Parked, 2, 0)
	got := w.Run(
		api.Pick{Task: 0, Op: api.Lock}, api.Pick{Task: 0},
		api.Pick{Task: 1, Op: api.RLock}, api.Pick{Task: 1}, api.Pick{Task: 1}, api.Pick{Task: 1}, api.Pick{Task: 1}, api.Pick{Task: 1, Op: api.RUnlock},
		api.Pick{Task: 0, Op: api.Unlock}, api.Pick{Task: 0}, api.Pick{Task: 1}, api.Pick{Task: 0}, api.Pick{Task: 0},
		api.Pick{Task: 1}, api.Pick{Task: 1}, api.Pick{Task: 1}, api.Pick{Task: 1}, api.Pick{Task: 1, Op: api.Unlock},
	)
	want := []string{
		"0 call lock", "0 reg write", "0 admit", "0 return lock true",
		"1 call rlock", "1 reg read",
		"0 call unlock", "0 leave", "0 pass", "0 return unlock true",
		"1 admit", "1 return rlock true", "1 call unlock", "1 return unlock misuse",
	}
	if rows := note.Rows(got...); !slices.Equal(rows, want) {
		t.Errorf("%q, want %q", rows, want)
	}
	holds(t, w, none, read)
}

// R4: a list of picks that is handed on as it is isn't changed, nor what lies behind it, and isn't kept: who writes over it changes nothing.
func TestRunList(t *testing.T) {
	each(t, 2, func(w *world.World) {
		l := []api.Pick{{Task: 0, Op: api.Lock}, {Task: 0}, {Task: 0}, {Task: 1, Op: api.RLock}, {Task: 1}, {Task: 1, Op: 99}, {Task: 77, Op: 88}}
		before := slices.Clone(l)
		w.Run(l[:5]...)
		if !slices.Equal(l, before) {
			t.Errorf("the picks are %+v, and were %+v", l, before)
		}
		s := w.State()
		clear(l)
		if !same(w.State(), s) {
			t.Errorf("it is %+v, and was %+v", w.State(), s)
		}
	})
}

// R6: the same picks of the same world do the same, each time.
func TestAgain(t *testing.T) {
	for _, kind := range kinds() {
		for _, mode := range modes() {
			for _, base := range bases() {
				a, b := made(t, kind, mode, 3, base), made(t, kind, mode, 3, base)
				d, f := dice(7), dice(7)
				for i := range 300 {
					x, y := a.Pick(d.any(a)), b.Pick(f.any(b))
					if text(x) != text(y) || !same(a.State(), b.State()) {
						t.Fatalf("the kind %d, the mode %d, the base %x: number %d: %q, and %q", kind, mode, base, i, text(x), text(y))
					}
				}
			}
		}
	}
}
