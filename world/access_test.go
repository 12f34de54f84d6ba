package world_test

import (
	"testing"

	"stileman/api"
)

// left is the word that an access leaves where old was.
func left(a api.Access, old uint32) uint32 {
	switch a.Kind {
	case api.AStore, api.ASwap:
		return a.X
	case api.AAdd:
		return old + a.X
	case api.ACas:
		if old == a.X {
			return a.Y
		}
	}
	return old
}

// P18.3: a pick that runs does one access at most: that of its event, whose cell alone may have another word then; of a misuse, and of a pick that runs nothing, there is none.
func TestOneAccess(t *testing.T) {
	d := dice(9)
	for _, n := range counts() {
		for _, kind := range kinds() {
			for _, mode := range modes() {
				w := made(t, kind, mode, n, top)
				for range 500 {
					p := d.any(w)
					ahead := w.State().Cells
					e := w.Pick(p)
					a := e.Access
					bare := !e.Ran || returns(e) == api.RetMisuse
					if bare != (a == api.Access{}) {
						t.Fatalf("the kind %d, the mode %d, %d tasks: the pick %+v: %+v", kind, mode, n, p, e)
					}
					for c, x := range w.State().Cells {
						want := ahead[c]
						if !bare && c == a.Cell {
							want = left(a, ahead[c])
							if a.Old != ahead[c] {
								t.Fatalf("the kind %d, the mode %d, %d tasks: the pick %+v: %+v, and %x was there", kind, mode, n, p, e, ahead[c])
							}
						}
						if x != want {
							t.Fatalf("the kind %d, the mode %d, %d tasks: the pick %+v: %+v, and the cell %d is %x, and was %x", kind, mode, n, p, e, c, x, ahead[c])
						}
					}
				}
			}
		}
	}
}

// P18.3: an operation takes as many picks as it has steps: of each kind, by itself, in both modes, for one task.
func TestHowManyPicks(t *testing.T) {
	ops := []int{api.RLock, api.TryUpgrade, api.Downgrade, api.RUnlock, api.TryRLock, api.RUnlock, api.Lock, api.Unlock, api.TryLock, api.Unlock}
	for kind, want := range map[int][2][]int{ // in the modes Spin and Parked, in which a wake-up takes one step more
		api.TaskFair:     {{3, 4, 1, 1, 4, 1, 2, 2, 3, 2}, {4, 4, 2, 2, 5, 2, 2, 4, 3, 4}},
		api.PhaseFair:    {{1, 9, 4, 1, 2, 1, 5, 4, 8, 4}, {1, 9, 6, 2, 2, 2, 5, 6, 8, 6}},
		api.PhaseQueue:   {{1, 8, 5, 1, 2, 1, 6, 5, 7, 5}, {1, 8, 6, 2, 2, 2, 6, 6, 7, 6}},
		api.FairQueue:    {{6, 4, 3, 1, 5, 1, 4, 2, 3, 2}, {6, 4, 3, 2, 5, 2, 4, 2, 3, 2}},
		api.ReadersFirst: {{1, 2, 1, 1, 2, 1, 2, 1, 2, 1}, {1, 2, 2, 2, 2, 2, 2, 2, 2, 2}},
		api.WritersFirst: {{2, 2, 2, 1, 2, 1, 2, 2, 2, 2}, {2, 2, 3, 2, 2, 2, 2, 3, 2, 3}},
	} {
		for _, mode := range modes() {
			w := made(t, kind, mode, 1, 0)
			for i, op := range ops {
				picks := 1
				for e := pick(t, w, 0, op); returns(e) != api.RetTrue && picks < 20; picks++ {
					e = pick(t, w, 0, api.Rest)
				}
				if picks != want[mode-1][i] {
					t.Errorf("the kind %d, the mode %d: number %d, the operation %d takes %d picks, want %d", kind, mode, i, op, picks, want[mode-1][i])
				}
			}
		}
	}
}
