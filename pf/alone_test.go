package pf_test

import (
	"slices"
	"testing"

	"stileman/api"
	"stileman/cells"
	"stileman/line"
	"stileman/pf"
	"stileman/place"
)

// lock makes the memory of a lock for n tasks that nobody holds or waits for.
func lock(t *testing.T, n int, base uint32) *cells.Memory {
	t.Helper()
	l, e := place.First(api.PhaseFair, n, base)
	if e != api.OK {
		t.Fatalf("a lock for %d tasks: %v", n, e)
	}
	m, _ := cells.From(l...)
	return m
}

// begun makes a run of the task, which begins the operation.
func begun(m *cells.Memory, n, mode, task, op int) *line.Run {
	return &line.Run{Mem: m, Map: place.Map{N: n}, Mode: mode, Task: task, Frame: api.Frame{Op: op}}
}

// through does all steps of the run's operation, and answers what each one did; it fails the test, if they don't end.
func through(t *testing.T, r *line.Run) (steps []string) {
	t.Helper()
	for range 600 {
		over := r.Step(pf.Lines)
		steps = append(steps, text(r))
		if over {
			return steps
		}
	}
	t.Fatalf("the operation %d doesn't end: %+v", r.Frame.Op, r.Frame)
	return nil
}

// alone does the operations one behind the other, as the last one of two tasks, and fails the test, unless they end with true, and the last one's steps are these.
func alone(t *testing.T, mode int, base uint32, ops []int, want []string) {
	t.Helper()
	m := lock(t, 2, base)
	var steps []string
	for _, op := range ops {
		r := begun(m, 2, mode, 1, op)
		steps = through(t, r)
		if r.Frame.Ret != yes || r.Frame.Wake != (api.Wake{}) || r.Frame.Wait != (api.Wait{}) {
			t.Errorf("%v, from %x: the operation %d: %+v", ops, base, op, r.Frame)
		}
	}
	if !slices.Equal(steps, want) {
		t.Errorf("%v, from %x: %q, want %q", ops, base, steps, want)
	}
}

// P11.2, and the chapter's example: each operation by itself, step by step, in the mode Spin, in both phases; those that need a hold follow one that gets it.
func TestAloneSteps(t *testing.T) {
	for _, x := range []struct {
		base  uint32
		ops   []int
		steps []string // of the last one
	}{
		{0, []int{api.RLock}, []string{"add 0 00000100 was 00000000, 1 reg read, 1 admit"}},
		{top, []int{api.RLock}, []string{"add 0 00000100 was ffffff00, 1 reg read, 1 admit"}},
		{7, []int{api.RLock, api.RUnlock}, []string{"add 1 00000100 was 00000700, 1 release"}},
		{0, []int{api.Lock}, []string{"add 2 00000001 was 00000000, 1 reg write", "load 3 was 00000000", "load 4 was 00000000", "add 0 00000002 was 00000000, 1 present", "load 1 was 00000000, 1 admit"}},
		{7, []int{api.Lock}, []string{"add 2 00000001 was 00000007, 1 reg write", "load 3 was 00000007", "load 4 was 00000007", "add 0 00000003 was 00000700, 1 present", "load 1 was 00000700, 1 admit"}},
		{half, []int{api.Lock}, []string{"add 2 00000001 was 80000000, 1 reg write", "load 3 was 80000000", "load 4 was 80000000", "add 0 00000002 was 00000000, 1 present", "load 1 was 00000000, 1 admit"}},
		{6, []int{api.Lock, api.Unlock}, []string{"load 4 was 00000006", "add 0 fffffffe was 00000602, 1 leave", "store 4 00000007 was 00000006", "add 3 00000001 was 00000006, 1 pass"}},
		{top, []int{api.Lock, api.Unlock}, []string{"load 4 was ffffffff", "add 0 fffffffd was ffffff03, 1 leave", "store 4 00000000 was ffffffff", "add 3 00000001 was ffffffff, 1 pass"}},
		{7, []int{api.TryRLock}, []string{"load 0 was 00000700", "cas 0 00000700 00000800 was 00000700, 1 reg read, 1 admit"}},
		{top, []int{api.TryRLock}, []string{"load 0 was ffffff00", "cas 0 ffffff00 00000000 was ffffff00, 1 reg read, 1 admit"}},
		{top, []int{api.TryLock}, []string{"load 2 was ffffffff", "load 3 was ffffffff", "cas 2 ffffffff 00000000 was ffffffff, 1 reg write", "load 0 was ffffff00", "load 1 was ffffff00", "load 4 was ffffffff", "add 0 00000003 was ffffff00, 1 present", "load 1 was ffffff00, 1 admit"}},
		{6, []int{api.TryLock}, []string{"load 2 was 00000006", "load 3 was 00000006", "cas 2 00000006 00000007 was 00000006, 1 reg write", "load 0 was 00000600", "load 1 was 00000600", "load 4 was 00000006", "add 0 00000002 was 00000600, 1 present", "load 1 was 00000600, 1 admit"}},
		{7, []int{api.RLock, api.TryUpgrade}, []string{"load 2 was 00000007", "load 3 was 00000007", "cas 2 00000007 00000008 was 00000007, 1 reg write", "load 0 was 00000800", "load 1 was 00000700", "load 4 was 00000007", "add 0 00000003 was 00000800, 1 present", "load 1 was 00000700, 1 up", "add 1 00000100 was 00000700"}},
		{top - 1, []int{api.RLock, api.TryUpgrade}, []string{"load 2 was fffffffe", "load 3 was fffffffe", "cas 2 fffffffe ffffffff was fffffffe, 1 reg write", "load 0 was ffffff00", "load 1 was fffffe00", "load 4 was fffffffe", "add 0 00000002 was ffffff00, 1 present", "load 1 was fffffe00, 1 up", "add 1 00000100 was fffffe00"}},
		{top, []int{api.RLock, api.TryUpgrade}, []string{"load 2 was ffffffff", "load 3 was ffffffff", "cas 2 ffffffff 00000000 was ffffffff, 1 reg write", "load 0 was 00000000", "load 1 was ffffff00", "load 4 was ffffffff", "add 0 00000003 was 00000000, 1 present", "load 1 was ffffff00, 1 up", "add 1 00000100 was ffffff00"}},
		{7, []int{api.RLock, api.TryUpgrade, api.Unlock}, []string{"load 4 was 00000007", "add 0 fffffffd was 00000803, 1 leave", "store 4 00000008 was 00000007", "add 3 00000001 was 00000007, 1 pass"}},
		{7, []int{api.Lock, api.Downgrade}, []string{"load 4 was 00000007", "add 0 000000fd was 00000703, 1 down", "store 4 00000008 was 00000007", "add 3 00000001 was 00000007, 1 pass"}},
		{6, []int{api.Lock, api.Downgrade}, []string{"load 4 was 00000006", "add 0 000000fe was 00000602, 1 down", "store 4 00000007 was 00000006", "add 3 00000001 was 00000006, 1 pass"}},
		{half - 1, []int{api.Lock, api.Downgrade, api.RUnlock}, []string{"add 1 00000100 was ffffff00, 1 release"}},
	} {
		alone(t, api.Spin, x.base, x.ops, x.steps)
	}
}

// P11.2: each operation by itself in the mode Parked: behind a step that others may wait for all watches are looked at, and where the operation ends with that step, it is over with the last one of these.
func TestAloneParked(t *testing.T) {
	look := func(steps ...string) (l []string) {
		for _, s := range steps {
			if s == "wakes" {
				l = append(l, "load 12 was 00000000", "load 13 was 00000000")
			} else {
				l = append(l, s)
			}
		}
		return l
	}
	for _, x := range []struct {
		ops   []int
		steps []string // of the last one
	}{
		{[]int{api.RLock}, look("add 0 00000100 was 00000000, 1 reg read, 1 admit")},
		{[]int{api.RLock, api.RUnlock}, look("add 1 00000100 was 00000000, 1 release", "wakes")},
		{[]int{api.Lock}, look("add 2 00000001 was 00000000, 1 reg write", "load 3 was 00000000", "load 4 was 00000000", "add 0 00000002 was 00000000, 1 present", "load 1 was 00000000, 1 admit")},
		{[]int{api.Lock, api.Unlock}, look("load 4 was 00000000", "add 0 fffffffe was 00000002, 1 leave", "wakes", "store 4 00000001 was 00000000", "add 3 00000001 was 00000000, 1 pass", "wakes")},
		{[]int{api.TryRLock}, look("load 0 was 00000000", "cas 0 00000000 00000100 was 00000000, 1 reg read, 1 admit")},
		{[]int{api.TryLock}, look("load 2 was 00000000", "load 3 was 00000000", "cas 2 00000000 00000001 was 00000000, 1 reg write", "load 0 was 00000000", "load 1 was 00000000", "load 4 was 00000000", "add 0 00000002 was 00000000, 1 present", "load 1 was 00000000, 1 admit")},
		{[]int{api.RLock, api.TryUpgrade}, look("load 2 was 00000000", "load 3 was 00000000", "cas 2 00000000 00000001 was 00000000, 1 reg write", "load 0 was 00000100", "load 1 was 00000000", "load 4 was 00000000", "add 0 00000002 was 00000100, 1 present", "load 1 was 00000000, 1 up", "add 1 00000100 was 00000000")},
		{[]int{api.Lock, api.Downgrade}, look("load 4 was 00000000", "add 0 000000fe was 00000002, 1 down", "wakes", "store 4 00000001 was 00000000", "add 3 00000001 was 00000000, 1 pass", "wakes")},
	} {
		alone(t, api.Parked, 0, x.ops, x.steps)
	}
}

// P11.2: of a lock that nobody holds or waits for each operation ends with true, by whom it may be; but for TryUpgrade of one that doesn't read, who waits for its own reading by the chapter's line 7.
func TestAloneFree(t *testing.T) {
	for _, base := range bases() {
		for _, mode := range append(spins(), api.Parked) {
			for _, op := range []int{api.RLock, api.RUnlock, api.Lock, api.Unlock, api.TryRLock, api.TryLock, api.Downgrade} {
				r := begun(lock(t, 2, base), 2, mode, 0, op)
				if through(t, r); r.Frame.Ret != yes {
					t.Errorf("the operation %d in the mode %d, from %x: %+v", op, mode, base, r.Frame)
				}
			}
			r := begun(lock(t, 2, base), 2, mode, 0, api.TryUpgrade)
			for range 100 {
				if r.Step(pf.Lines) {
					t.Errorf("in the mode %d, from %x: %+v", mode, base, r.Frame)
				}
			}
			if r.Frame.Line != 7 || line.Stuck(*r) != (mode == api.Parked) {
				t.Errorf("in the mode %d, from %x: %+v", mode, base, r.Frame)
			}
		}
	}
}

// together are operations that belong together, and how many readers, tickets and phases they count.
type together struct {
	ops                      []int
	readers, tickets, phases uint32
}

// togethers are those that belong together.
func togethers() []together {
	return []together{
		{[]int{api.RLock, api.RUnlock}, 1, 0, 0},
		{[]int{api.TryRLock, api.RUnlock}, 1, 0, 0},
		{[]int{api.Lock, api.Unlock}, 0, 1, 1},
		{[]int{api.TryLock, api.Unlock}, 0, 1, 1},
		{[]int{api.Lock, api.Downgrade, api.RUnlock}, 1, 1, 1},
		{[]int{api.TryLock, api.Downgrade, api.RUnlock}, 1, 1, 1},
		{[]int{api.RLock, api.TryUpgrade, api.Unlock}, 1, 1, 1},
		{[]int{api.TryRLock, api.TryUpgrade, api.Unlock}, 1, 1, 1},
		{[]int{api.RLock, api.TryUpgrade, api.Downgrade, api.TryUpgrade, api.Downgrade, api.RUnlock}, 3, 2, 2},
		{[]int{api.Lock, api.Downgrade, api.TryUpgrade, api.Unlock}, 1, 2, 2},
	}
}

// counted are the own words of a lock that nobody holds or waits for, by which so many readers, tickets and phases were counted since the base.
func counted(base, readers, tickets, phases uint32) own {
	return own{256 * (base + readers), 256 * (base + readers), base + tickets, base + tickets, base + phases}
}

// P11.2: those that belong together end with true, and leave rin and rout alike, and win and wout, wherever tickets and phases began to count, whoever the task is, of all numbers of tasks, in all modes; no other cell is touched.
func TestTogether(t *testing.T) {
	for _, x := range togethers() {
		for _, base := range append(bases(), top-1, 77) {
			for _, n := range []int{1, 2, 64} {
				for _, task := range []int{0, n / 2, n - 1} {
					for _, mode := range []int{api.Spin, 0, api.Parked} {
						m := lock(t, n, base)
						first := m.All()
						for round := range uint32(3) {
							for _, op := range x.ops {
								r := begun(m, n, mode, task, op)
								through(t, r)
								if r.Frame.Ret != yes {
									t.Fatalf("%v, from %x, of %d tasks, in the mode %d: the operation %d: %+v", x.ops, base, n, mode, op, r.Frame)
								}
							}
							k := round + 1
							if ownOf(m) != counted(base, k*x.readers, k*x.tickets, k*x.phases) {
								t.Fatalf("%v, from %x, of %d tasks, in the mode %d: %x", x.ops, base, n, mode, ownOf(m))
							}
							rest(t, m, first)
						}
					}
				}
			}
		}
	}
}

// P11.1: a frame that is new but for its words in A and B goes the same way.
func TestWordsAtFirst(t *testing.T) {
	for _, x := range togethers() {
		for _, mode := range modes() {
			var want []string
			for i, w := range [][2]uint32{{0, 0}, {5, 9}, {9, 5}, {top, 0}, {half, top}, {0x502, 6}, {0x503, 3}} {
				m := lock(t, 2, 5)
				var steps []string
				for _, op := range x.ops {
					r := begun(m, 2, mode, 1, op)
					r.Frame.A, r.Frame.B = w[0], w[1]
					steps = append(steps, through(t, r)...)
				}
				if i == 0 {
					want = steps
				}
				if !slices.Equal(steps, want) {
					t.Errorf("%v with %v: %q, want %q", x.ops, w, steps, want)
				}
			}
		}
	}
}
