package rf_test

import (
	"slices"
	"testing"

	"stileman/api"
	"stileman/cells"
	"stileman/line"
	"stileman/place"
	"stileman/rf"
)

// lock makes the memory of a lock for n tasks that nobody holds or waits for.
func lock(t *testing.T, n int) *cells.Memory {
	t.Helper()
	l, e := place.First(api.ReadersFirst, n, 5)
	if e != api.OK {
		t.Fatalf("a lock for %d tasks: %v", n, e)
	}
	m, _ := cells.From(l...)
	return m
}

// begun makes a run of the task, which begins the operation.
func begun(m *cells.Memory, n, mode, task, op int) *line.Run {
	return &line.Run{Mem: m, Map: place.Map{N: n}, Mode: mode, Task: task, Frame: api.Frame{Op: op}}
}

// through does all steps of the run's operation, and answers what each one did; it fails the test, if they don't end.
func through(t *testing.T, r *line.Run) (steps []string) {
	t.Helper()
	for range 400 {
		over := r.Step(rf.Lines)
		steps = append(steps, text(r))
		if over {
			return steps
		}
	}
	t.Fatalf("the operation %d doesn't end: %+v", r.Frame.Op, r.Frame)
	return nil
}

// P15.2, and the chapter's example: each operation by itself, step by step, of the last one of two tasks, in all modes; those that need a hold follow one that gets it. In the mode Parked who leaves, or goes down, looks at all watches.
func TestAloneSteps(t *testing.T) {
	read := []string{"add 0 00000001 was 00000000, 1 reg read, 1 admit"}
	write := []string{"load 0 was 00000000, 1 reg write", "cas 0 00000000 00010000 was 00000000, 1 admit"}
	tryRead := []string{"load 0 was 00000000", "cas 0 00000000 00000001 was 00000000, 1 reg read, 1 admit"}
	tryWrite := []string{"load 0 was 00000000", "cas 0 00000000 00010000 was 00000000, 1 reg write, 1 admit"}
	release := []string{"add 0 ffffffff was 00000001, 1 release", "wakes"}
	leave := []string{"add 0 ffff0000 was 00010000, 1 leave, 1 pass", "wakes"}
	up := []string{"load 0 was 00000001", "cas 0 00000001 00010000 was 00000001, 1 up"}
	down := []string{"add 0 ffff0001 was 00010000, 1 down", "wakes"}
	for _, x := range []struct {
		ops   []int
		steps []string // of the last one; behind "wakes" in the mode Parked all watches are looked at
	}{
		{[]int{api.RLock}, read},
		{[]int{api.RLock, api.RUnlock}, release},
		{[]int{api.Lock}, write},
		{[]int{api.Lock, api.Unlock}, leave},
		{[]int{api.TryRLock}, tryRead},
		{[]int{api.TryRLock, api.RUnlock}, release},
		{[]int{api.TryLock}, tryWrite},
		{[]int{api.TryLock, api.Unlock}, leave},
		{[]int{api.RLock, api.TryUpgrade}, up},
		{[]int{api.TryRLock, api.TryUpgrade}, up},
		{[]int{api.RLock, api.TryUpgrade, api.Unlock}, leave},
		{[]int{api.RLock, api.TryUpgrade, api.Downgrade}, down},
		{[]int{api.Lock, api.Downgrade}, down},
		{[]int{api.TryLock, api.Downgrade}, down},
		{[]int{api.Lock, api.Downgrade, api.RUnlock}, release},
		{[]int{api.Lock, api.Downgrade, api.TryUpgrade}, up},
	} {
		for _, mode := range append(spins(), api.Parked) {
			m := lock(t, 2)
			var steps, want []string
			for _, op := range x.ops {
				r := begun(m, 2, mode, 1, op)
				steps = through(t, r)
				if r.Frame.Ret != yes || r.Frame.Wake != (api.Wake{}) || r.Frame.Wait != (api.Wait{}) {
					t.Errorf("%v in the mode %d: the operation %d: %+v", x.ops, mode, op, r.Frame)
				}
			}
			for _, s := range x.steps {
				switch {
				case s != "wakes":
					want = append(want, s)
				case mode == api.Parked:
					want = append(want, "load 12 was 00000000", "load 13 was 00000000")
				}
			}
			if !slices.Equal(steps, want) {
				t.Errorf("%v in the mode %d: %q, want %q", x.ops, mode, steps, want)
			}
		}
	}
}

// P15.2: of a lock that nobody holds or waits for each operation ends with true, by whom it may be begun, and also RUnlock, Unlock and Downgrade; but one who doesn't read isn't let up, by the chapter's lines.
func TestAloneFree(t *testing.T) {
	for _, mode := range append(spins(), api.Parked) {
		for _, x := range []struct {
			op, ret int
			left    uint32
		}{
			{api.RLock, yes, 1}, {api.Lock, yes, w}, {api.TryRLock, yes, 1}, {api.TryLock, yes, w},
			{api.RUnlock, yes, top}, {api.Unlock, yes, 0xffff0000}, {api.Downgrade, yes, 0xffff0001}, {api.TryUpgrade, no, 0},
		} {
			m := lock(t, 2)
			want := m.All()
			want[0] = x.left
			r := begun(m, 2, mode, 0, x.op)
			if through(t, r); r.Frame.Ret != x.ret || !slices.Equal(m.All(), want) {
				t.Errorf("the operation %d in the mode %d: %+v, the cells are %x", x.op, mode, r.Frame, m.All())
			}
		}
	}
}

// togethers are operations that belong together.
func togethers() [][]int {
	return [][]int{
		{api.RLock, api.RUnlock},
		{api.TryRLock, api.RUnlock},
		{api.Lock, api.Unlock},
		{api.TryLock, api.Unlock},
		{api.Lock, api.Downgrade, api.RUnlock},
		{api.TryLock, api.Downgrade, api.RUnlock},
		{api.RLock, api.TryUpgrade, api.Unlock},
		{api.TryRLock, api.TryUpgrade, api.Unlock},
		{api.RLock, api.TryUpgrade, api.Downgrade, api.TryUpgrade, api.Downgrade, api.RUnlock},
		{api.Lock, api.Downgrade, api.TryUpgrade, api.Unlock},
	}
}

// P15.2: those that belong together end with true, and leave the word 0, whoever the task is, of all numbers of tasks, in all modes, also again and again; no other cell is touched.
func TestTogether(t *testing.T) {
	for _, ops := range togethers() {
		for _, n := range counts() {
			for _, task := range []int{0, n / 2, n - 1} {
				for _, mode := range append(spins(), api.Parked) {
					l := marked(8+4*n, 0)
					m, _ := cells.From(l...)
					for range 3 {
						for _, op := range ops {
							r := begun(m, n, mode, task, op)
							through(t, r)
							if r.Frame.Ret != yes {
								t.Fatalf("%v, of %d tasks, in the mode %d: the operation %d: %+v", ops, n, mode, op, r.Frame)
							}
						}
						if all := m.All(); !slices.Equal(all, l) {
							t.Fatalf("%v, of %d tasks, in the mode %d: the cells are %x", ops, n, mode, all)
						}
					}
				}
			}
		}
	}
}

// P15.2: where others read, those that belong together leave the word as it was, and so do the tries that are refused for that.
func TestTogetherBesideReaders(t *testing.T) {
	for _, ops := range [][]int{{api.RLock, api.RUnlock}, {api.TryRLock, api.RUnlock}, {api.TryLock}, {api.RLock, api.TryUpgrade, api.RUnlock}} {
		for _, v := range []uint32{1, 2, 63} {
			for _, mode := range append(spins(), api.Parked) {
				l := marked(16, v)
				m, _ := cells.From(l...)
				for _, op := range ops {
					want := yes
					if op == api.TryLock || op == api.TryUpgrade {
						want = no
					}
					r := begun(m, 2, mode, 1, op)
					if through(t, r); r.Frame.Ret != want {
						t.Errorf("%v beside %d, in the mode %d: the operation %d: %+v", ops, v, mode, op, r.Frame)
					}
				}
				if all := m.All(); !slices.Equal(all, l) {
					t.Errorf("%v beside %d, in the mode %d: the cells are %x", ops, v, mode, all)
				}
			}
		}
	}
}

// P15.1: a frame that is new but for its words in A and B goes the same way, and keeps B.
func TestWordsAtFirst(t *testing.T) {
	for _, ops := range togethers() {
		for _, mode := range modes() {
			var want []string
			for i, kept := range [][2]uint32{{0, 0}, {1, 9}, {2, 1}, {w, w}, {w + 1, 0}, {9, 5}, {top, 0}, {half, top}} {
				m := lock(t, 2)
				var steps []string
				for _, op := range ops {
					r := begun(m, 2, mode, 1, op)
					r.Frame.A, r.Frame.B = kept[0], kept[1]
					steps = append(steps, through(t, r)...)
					if r.Frame.B != kept[1] {
						t.Errorf("%v with %v: %+v", ops, kept, r.Frame)
					}
				}
				if i == 0 {
					want = steps
				}
				if !slices.Equal(steps, want) {
					t.Errorf("%v with %v: %q, want %q", ops, kept, steps, want)
				}
			}
		}
	}
}
