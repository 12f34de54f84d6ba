package world_test

import (
	"slices"
	"testing"

	"stileman/api"
	"stileman/world"
)

// alike tells whether two events are of the same picks, notes and cells, whatever the words are.
func alike(a, b api.Event) bool {
	return a.Ran == b.Ran && a.Access.Kind == b.Access.Kind && a.Access.Cell == b.Access.Cell && slices.Equal(a.Notes, b.Notes)
}

// P6: nothing hangs on where tickets begin to count: the same picks do the same from bases that are an even number apart, also where words, and their fields, go round; the kinds that have no phases ask not even for that.
func TestAlike(t *testing.T) {
	for _, kind := range kinds() {
		for _, mode := range modes() {
			for _, n := range []int{1, 2, 5} {
				for _, base := range bases() {
					first := base & 1
					if kind != api.PhaseFair && kind != api.PhaseQueue {
						first = 77
					}
					compare(t, made(t, kind, mode, n, first), made(t, kind, mode, n, base))
				}
			}
		}
	}
}

// compare fails the test, unless picks by chance of both worlds do the same.
func compare(t *testing.T, a, b *world.World) {
	t.Helper()
	d := dice(11)
	for range 600 {
		p := d.any(a)
		if x, y := a.Pick(p), b.Pick(p); !alike(x, y) {
			t.Fatalf("the pick %+v: %q, and %q: %+v, and %+v", p, text(x), text(y), a.State(), b.State())
		}
	}
}

// went tells whether the word of the cell has gone round: it is less than it was at first.
func went(w *world.World, first api.State, c int) bool {
	return w.State().Cells[c] < first.Cells[c]
}

// P18.1, P6: from the greatest base tickets, counts of readers and phases go round, and the tasks get in and out as ever.
func TestRound(t *testing.T) {
	for kind, counted := range map[int][]int{ // the cells that go round
		api.TaskFair:   {0, 1, 2},
		api.PhaseFair:  {0, 1, 2, 3, 4},
		api.PhaseQueue: {0, 1, 3},
	} {
		for _, mode := range modes() {
			w := made(t, kind, mode, 3, top)
			first := w.State()
			for range 2 {
				ends(t, w, 0, api.RLock, api.RetTrue)
				ends(t, w, 1, api.RLock, api.RetTrue)
				ends(t, w, 2, api.Lock, api.RetNone)
				ends(t, w, 0, api.RUnlock, api.RetTrue)
				ends(t, w, 1, api.RUnlock, api.RetTrue)
				ends(t, w, 2, api.Rest, api.RetTrue)
				holds(t, w, none, none, write)
				ends(t, w, 2, api.Unlock, api.RetTrue)
			}
			for _, c := range counted {
				if !went(w, first, c) {
					t.Errorf("the kind %d, the mode %d: the cell %d is %x, and was %x", kind, mode, c, w.State().Cells[c], first.Cells[c])
				}
			}
		}
	}
}

// P18.1, P6: writers' tickets of the kind in which they go first go round their fields, of 8 bits, again and again.
func TestTicketsRound(t *testing.T) {
	for _, mode := range modes() {
		w := made(t, api.WritersFirst, mode, 2, 250)
		for i := range 600 {
			ends(t, w, 0, api.Lock, api.RetTrue)
			ends(t, w, 1, api.Lock, api.RetNone)
			ends(t, w, 0, api.Unlock, api.RetTrue)
			ends(t, w, 1, api.Rest, api.RetTrue)
			ends(t, w, 1, api.Unlock, api.RetTrue)
			ends(t, w, i%2, api.RLock, api.RetTrue)
			ends(t, w, i%2, api.RUnlock, api.RetTrue)
		}
		if x, turn := w.State().Cells[0], uint32(250+1200)%256; x>>8&0xff != turn || x>>16&0xff != turn || x&0xff != 0 {
			t.Errorf("the mode %d: the word is %x, and the turn is to be %x", mode, x, turn)
		}
	}
}
