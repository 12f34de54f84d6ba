package tf_test

import (
	"slices"
	"testing"

	"stileman/api"
	"stileman/cells"
	"stileman/line"
	"stileman/place"
	"stileman/tf"
)

// lock makes the memory of a lock for n tasks that nobody holds or waits for.
func lock(t *testing.T, n int, base uint32) *cells.Memory {
	t.Helper()
	l, e := place.First(api.TaskFair, n, base)
	if e != api.OK {
		t.Fatalf("a lock for %d tasks: %v", n, e)
	}
	m, _ := cells.From(l...)
	return m
}

// begun makes a run of the task, which begins the operation.
func begun(m *cells.Memory, n, mode, task, op int) *line.Run {
	return &line.Run{Mem: m, Map: place.Map{N: n}, Mode: mode, Task: task, Frame: api.Frame{Op: op}}
}

// through does all steps of the run's operation, and answers what each one did; it fails the test, if they don't end.
func through(t *testing.T, r *line.Run) (steps []string) {
	t.Helper()
	for range 400 {
		over := r.Step(tf.Lines)
		steps = append(steps, text(r))
		if over {
			return steps
		}
	}
	t.Fatalf("the operation %d doesn't end: %+v", r.Frame.Op, r.Frame)
	return nil
}

// P10.2, and the chapter's example: each operation by itself, step by step, in the mode Spin, of the task 0; those that need a hold follow one that gets it.
func TestAloneSteps(t *testing.T) {
	for _, x := range []struct {
		base  uint32
		ops   []int
		steps []string // of the last one
	}{
		{0, []int{api.RLock}, []string{"add 0 00000001 was 00000000, 0 reg read", "load 1 was 00000000", "add 1 00000001 was 00000000, 0 admit"}},
		{top, []int{api.RLock}, []string{"add 0 00000001 was ffffffff, 0 reg read", "load 1 was ffffffff", "add 1 00000001 was ffffffff, 0 admit"}},
		{7, []int{api.RLock, api.RUnlock}, []string{"add 2 00000001 was 00000007, 0 release"}},
		{0, []int{api.Lock}, []string{"add 0 00000001 was 00000000, 0 reg write", "load 2 was 00000000, 0 admit"}},
		{half, []int{api.Lock}, []string{"add 0 00000001 was 80000000, 0 reg write", "load 2 was 80000000, 0 admit"}},
		{7, []int{api.Lock, api.Unlock}, []string{"add 1 00000001 was 00000007, 0 leave", "add 2 00000001 was 00000007, 0 pass"}},
		{7, []int{api.TryRLock}, []string{"load 0 was 00000007", "load 1 was 00000007", "cas 0 00000007 00000008 was 00000007, 0 reg read", "add 1 00000001 was 00000007, 0 admit"}},
		{top, []int{api.TryLock}, []string{"load 0 was ffffffff", "load 2 was ffffffff", "cas 0 ffffffff 00000000 was ffffffff, 0 reg write, 0 admit"}},
		{7, []int{api.RLock, api.TryUpgrade}, []string{"load 0 was 00000008", "load 2 was 00000007", "cas 0 00000008 00000009 was 00000008, 0 up", "add 2 00000001 was 00000007"}},
		{7, []int{api.RLock, api.TryUpgrade, api.Unlock}, []string{"add 1 00000001 was 00000008, 0 leave", "add 2 00000001 was 00000008, 0 pass"}},
		{7, []int{api.Lock, api.Downgrade}, []string{"add 1 00000001 was 00000007, 0 down"}},
		{7, []int{api.Lock, api.Downgrade, api.TryUpgrade}, []string{"load 0 was 00000008", "load 2 was 00000007", "cas 0 00000008 00000009 was 00000008, 0 up", "add 2 00000001 was 00000007"}},
		{half - 1, []int{api.Lock, api.Downgrade, api.RUnlock}, []string{"add 2 00000001 was 7fffffff, 0 release"}},
	} {
		m := lock(t, 2, x.base)
		var steps []string
		for _, op := range x.ops {
			r := begun(m, 2, api.Spin, 0, op)
			steps = through(t, r)
			if r.Frame.Ret != yes {
				t.Errorf("%v: the operation %d: %+v", x.ops, op, r.Frame)
			}
		}
		if !slices.Equal(steps, x.steps) {
			t.Errorf("%v: %q, want %q", x.ops, steps, x.steps)
		}
	}
}

// P10.2: each operation by itself in the mode Parked: behind a step by which a turn goes on all watches are looked at, and the operation is over with the last one.
func TestAloneParked(t *testing.T) {
	for _, x := range []struct {
		ops   []int
		steps []string // of the last one
	}{
		{[]int{api.RLock}, []string{"add 0 00000001 was 00000000, 1 reg read", "load 1 was 00000000", "add 1 00000001 was 00000000, 1 admit", "load 12 was 00000000", "load 13 was 00000000"}},
		{[]int{api.RLock, api.RUnlock}, []string{"add 2 00000001 was 00000000, 1 release", "load 12 was 00000000", "load 13 was 00000000"}},
		{[]int{api.Lock}, []string{"add 0 00000001 was 00000000, 1 reg write", "load 2 was 00000000, 1 admit"}},
		{[]int{api.Lock, api.Unlock}, []string{"add 1 00000001 was 00000000, 1 leave", "load 12 was 00000000", "load 13 was 00000000", "add 2 00000001 was 00000000, 1 pass", "load 12 was 00000000", "load 13 was 00000000"}},
		{[]int{api.TryRLock}, []string{"load 0 was 00000000", "load 1 was 00000000", "cas 0 00000000 00000001 was 00000000, 1 reg read", "add 1 00000001 was 00000000, 1 admit", "load 12 was 00000000", "load 13 was 00000000"}},
		{[]int{api.TryLock}, []string{"load 0 was 00000000", "load 2 was 00000000", "cas 0 00000000 00000001 was 00000000, 1 reg write, 1 admit"}},
		{[]int{api.RLock, api.TryUpgrade}, []string{"load 0 was 00000001", "load 2 was 00000000", "cas 0 00000001 00000002 was 00000001, 1 up", "add 2 00000001 was 00000000"}},
		{[]int{api.Lock, api.Downgrade}, []string{"add 1 00000001 was 00000000, 1 down", "load 12 was 00000000", "load 13 was 00000000"}},
	} {
		m := lock(t, 2, 0)
		var steps []string
		for _, op := range x.ops {
			r := begun(m, 2, api.Parked, 1, op)
			steps = through(t, r)
			if r.Frame.Ret != yes || r.Frame.Wake != (api.Wake{}) || r.Frame.Wait != (api.Wait{}) {
				t.Errorf("%v: the operation %d: %+v", x.ops, op, r.Frame)
			}
		}
		if !slices.Equal(steps, x.steps) {
			t.Errorf("%v: %q, want %q", x.ops, steps, x.steps)
		}
	}
}

// P10.2: those that belong together end with true, and leave all three cells alike, wherever tickets began to count, whoever the task is, of all numbers of tasks, in all modes; no other cell is touched.
func TestTogether(t *testing.T) {
	for _, x := range []struct {
		ops     []int
		tickets uint32
	}{
		{[]int{api.RLock, api.RUnlock}, 1},
		{[]int{api.TryRLock, api.RUnlock}, 1},
		{[]int{api.Lock, api.Unlock}, 1},
		{[]int{api.TryLock, api.Unlock}, 1},
		{[]int{api.Lock, api.Downgrade, api.RUnlock}, 1},
		{[]int{api.TryLock, api.Downgrade, api.RUnlock}, 1},
		{[]int{api.RLock, api.TryUpgrade, api.Unlock}, 2},
		{[]int{api.TryRLock, api.TryUpgrade, api.Unlock}, 2},
		{[]int{api.RLock, api.TryUpgrade, api.Downgrade, api.TryUpgrade, api.Downgrade, api.RUnlock}, 3},
		{[]int{api.Lock, api.Downgrade, api.TryUpgrade, api.Unlock}, 2},
	} {
		for _, base := range append(bases(), top-1, 77) {
			for _, n := range []int{1, 2, 64} {
				for _, task := range []int{0, n / 2, n - 1} {
					for _, mode := range append(spins(), api.Parked) {
						m := lock(t, n, base)
						first := m.All()
						for round := range uint32(3) {
							for _, op := range x.ops {
								r := begun(m, n, mode, task, op)
								through(t, r)
								if r.Frame.Ret != yes {
									t.Fatalf("%v, from %x, of %d tasks, in the mode %d: the operation %d: %+v", x.ops, base, n, mode, op, r.Frame)
								}
							}
							then := base + x.tickets*(round+1)
							if ownOf(m) != (own{then, then, then}) {
								t.Fatalf("%v, from %x, of %d tasks, in the mode %d: %x", x.ops, base, n, mode, ownOf(m))
							}
							rest(t, m, first)
						}
					}
				}
			}
		}
	}
}

// P10.1: a frame that is new but for its words in A and B goes the same way.
func TestWordsAtFirst(t *testing.T) {
	for _, ops := range [][]int{{api.RLock}, {api.Lock}, {api.TryRLock}, {api.TryLock}, {api.RLock, api.RUnlock}, {api.Lock, api.Unlock}, {api.RLock, api.TryUpgrade}, {api.Lock, api.Downgrade}} {
		for _, mode := range modes() {
			var want []string
			for i, w := range [][2]uint32{{0, 0}, {5, 9}, {9, 5}, {top, 0}, {half, top}, {6, 6}} {
				m := lock(t, 2, 5)
				var steps []string
				for _, op := range ops {
					r := begun(m, 2, mode, 1, op)
					r.Frame.A, r.Frame.B = w[0], w[1]
					steps = append(steps, through(t, r)...)
				}
				if i == 0 {
					want = steps
				}
				if !slices.Equal(steps, want) {
					t.Errorf("%v with %v: %q, want %q", ops, w, steps, want)
				}
			}
		}
	}
}
