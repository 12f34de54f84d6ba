package world_test

import (
	"slices"
	"testing"

	"stileman/api"
	"stileman/world"
)

// P18.1: a new world of each kind, in each mode, of each number of tasks: its tasks are idle, and hold nothing.
func TestNew(t *testing.T) {
	for _, kind := range kinds() {
		for _, mode := range modes() {
			for n := 1; n <= 64; n++ {
				w := made(t, kind, mode, n, 5)
				s := w.State()
				tells(t, w, s)
				if s.Kind != kind || s.Mode != mode || s.N != n || len(s.Tasks) != n || len(s.Cells) != 8+4*n {
					t.Errorf("the kind %d, the mode %d, %d tasks: %+v", kind, mode, n, s)
				}
				for i := range n {
					if w.Hold(i) != none || w.Busy(i) != api.Rest || w.Stuck(i) || s.Tasks[i] != (api.Task{}) {
						t.Errorf("the kind %d, the mode %d, %d tasks: the task %d is %+v", kind, mode, n, i, s.Tasks[i])
					}
				}
			}
		}
	}
}

// P18.1: the cells of a new world are those of its kind at first, from the base.
func TestFirstWords(t *testing.T) {
	for _, x := range []struct {
		kind  int
		base  uint32
		words []uint32
	}{
		{api.TaskFair, 0, nil},
		{api.TaskFair, 5, []uint32{5, 5, 5}},
		{api.TaskFair, top, []uint32{top, top, top}},
		{api.PhaseFair, 0, nil},
		{api.PhaseFair, 5, []uint32{0x500, 0x500, 5, 5, 5}},
		{api.PhaseFair, top, []uint32{0xffffff00, 0xffffff00, top, top, top}},
		{api.PhaseQueue, 0, nil},
		{api.PhaseQueue, 5, []uint32{0x500, 0x500, 0, 5}},
		{api.PhaseQueue, top, []uint32{0xffffff00, 0xffffff00, 0, top}},
		{api.FairQueue, 0, nil},
		{api.FairQueue, 5, nil},
		{api.FairQueue, top, nil},
		{api.ReadersFirst, 0, nil},
		{api.ReadersFirst, 5, nil},
		{api.ReadersFirst, top, nil},
		{api.WritersFirst, 0, nil},
		{api.WritersFirst, 5, []uint32{0x50500}},
		{api.WritersFirst, top, []uint32{0xffff00}},
	} {
		for _, mode := range modes() {
			for _, n := range counts() {
				want := make([]uint32, 8+4*n)
				copy(want, x.words)
				if got := made(t, x.kind, mode, n, x.base).State().Cells; !slices.Equal(got, want) {
					t.Errorf("the kind %d, the mode %d, %d tasks, the base %x: %x", x.kind, mode, n, x.base, got)
				}
			}
		}
	}
}

// fails fails the test, unless New answers the error, and no world.
func fails(t *testing.T, kind, mode, n int, base uint32, want api.Errno) {
	t.Helper()
	if w, e := world.New(kind, mode, n, base); w != nil || e != want {
		t.Errorf("the kind %d, the mode %d, %d tasks, the base %x: %v, %v, want %v", kind, mode, n, base, w, e, want)
	}
}

// P18.1: a kind that is none, whatever the mode and the number of tasks.
func TestNewErrKind(t *testing.T) {
	for _, kind := range append(beside(1, 6), 0, 7, -1) {
		for _, mode := range append(beside(1, 2), 0, 1, 2, 3) {
			for _, n := range append(beside(1, 64), 0, 1, 2, 64, 65) {
				fails(t, kind, mode, n, 5, api.ErrKind)
			}
		}
	}
}

// P18.1: a mode that is none, of a kind that is one, whatever the number of tasks.
func TestNewErrArg(t *testing.T) {
	for _, kind := range kinds() {
		for _, mode := range append(beside(1, 2), 0, 3, -1) {
			for _, n := range append(beside(1, 64), 0, 1, 2, 64, 65) {
				fails(t, kind, mode, n, 5, api.ErrArg)
			}
		}
	}
}

// P18.1: a number of tasks that isn't from 1 to 64, of a kind and in a mode that are ones.
func TestNewErrRange(t *testing.T) {
	for _, kind := range kinds() {
		for _, mode := range modes() {
			for _, n := range append(beside(1, 64), 0, 65, -1) {
				for _, base := range []uint32{0, 5, top} {
					fails(t, kind, mode, n, base, api.ErrRange)
				}
			}
		}
	}
}

// P18.1: every base is one, and each operation of a lock from it ends, and leaves the lock to others.
func TestBases(t *testing.T) {
	for _, kind := range kinds() {
		for _, mode := range modes() {
			for _, base := range bases() {
				w := made(t, kind, mode, 2, base)
				for range 5 {
					for task := range 2 {
						for _, op := range []int{api.RLock, api.TryUpgrade, api.Downgrade, api.RUnlock, api.TryRLock, api.RUnlock, api.Lock, api.Unlock, api.TryLock, api.Unlock} {
							ends(t, w, task, op, api.RetTrue)
						}
					}
				}
				holds(t, w, none, none)
			}
		}
	}
}

// R4: worlds share nothing: what is done in one changes no other one.
func TestWorldsApart(t *testing.T) {
	for _, kind := range kinds() {
		a, b := made(t, kind, api.Parked, 3, 5), made(t, kind, api.Parked, 3, 5)
		first := b.State()
		ends(t, a, 0, api.Lock, api.RetTrue)
		ends(t, a, 1, api.RLock, api.RetNone)
		ends(t, a, 2, api.Lock, api.RetNone)
		if !same(b.State(), first) {
			t.Errorf("the kind %d: %+v, and was %+v", kind, b.State(), first)
		}
		ends(t, b, 2, api.Lock, api.RetTrue)
		holds(t, a, write, none, none)
		holds(t, b, none, none, write)
	}
}
