package fq_test

import (
	"slices"
	"testing"

	"stileman/api"
	"stileman/cells"
	"stileman/fq"
	"stileman/line"
	"stileman/place"
)

// lock makes the memory of a lock for n tasks that nobody holds or waits for.
func lock(t *testing.T, n int) *cells.Memory {
	t.Helper()
	l, e := place.First(api.FairQueue, n, 5)
	if e != api.OK {
		t.Fatalf("a lock for %d tasks: %v", n, e)
	}
	m, _ := cells.From(l...)
	return m
}

// begun makes a run of the task, which begins the operation.
func begun(m *cells.Memory, n, mode, task, op int) *line.Run {
	return &line.Run{Mem: m, Map: place.Map{N: n}, Mode: mode, Task: task, Frame: api.Frame{Op: op}}
}

// through does all steps of the run's operation, and answers what each one did; it fails the test, if they don't end.
func through(t *testing.T, r *line.Run) (steps []string) {
	t.Helper()
	for range 600 {
		over := r.Step(fq.Lines)
		steps = append(steps, text(r))
		if over {
			return steps
		}
	}
	t.Fatalf("the operation %d doesn't end: %+v", r.Frame.Op, r.Frame)
	return nil
}

// P13.2, and the chapter's example: each operation by itself, step by step, of the last one of two tasks, in all modes; those that need a hold follow one that gets it. In the mode Parked who leaves as a reader looks at all watches.
func TestAloneSteps(t *testing.T) {
	swap := func(class string) []string {
		return []string{"store 9 00000000 was 00000000", "store 11 00000001 was 00000000", "swap 0 00000002 was 00000000, 1 reg " + class}
	}
	try := func(class string) []string {
		return []string{"store 9 00000000 was 00000000", "cas 0 00000000 00000002 was 00000000, 1 reg " + class}
	}
	in := func(notes string) []string {
		return []string{"add 1 00000001 was 00000000", "load 9 was 00000000", "cas 0 00000002 00000000 was 00000002, 1 " + notes}
	}
	out := []string{"add 1 ffffffff was 00000001, 1 release"}
	free := []string{"load 9 was 00000000", "cas 0 00000002 00000000 was 00000002, 1 leave, 1 pass"}
	up := slices.Concat(try("write"), []string{"load 1 was 00000001", "add 1 ffffffff was 00000001, 1 up"})
	for _, x := range []struct {
		ops   []int
		steps []string // of the last one
	}{
		{[]int{api.RLock}, slices.Concat(swap("read"), in("admit"))},
		{[]int{api.RLock, api.RUnlock}, out},
		{[]int{api.Lock}, slices.Concat(swap("write"), []string{"load 1 was 00000000, 1 admit"})},
		{[]int{api.Lock, api.Unlock}, free},
		{[]int{api.TryRLock}, slices.Concat(try("read"), in("admit"))},
		{[]int{api.TryRLock, api.RUnlock}, out},
		{[]int{api.TryLock}, slices.Concat(try("write"), []string{"load 1 was 00000000, 1 admit"})},
		{[]int{api.TryLock, api.Unlock}, free},
		{[]int{api.RLock, api.TryUpgrade}, up},
		{[]int{api.TryRLock, api.TryUpgrade}, up},
		{[]int{api.RLock, api.TryUpgrade, api.Unlock}, free},
		{[]int{api.Lock, api.Downgrade}, in("down")},
		{[]int{api.RLock, api.TryUpgrade, api.Downgrade}, in("down")},
		{[]int{api.Lock, api.Downgrade, api.RUnlock}, out},
	} {
		for _, mode := range append(spins(), api.Parked) {
			m := lock(t, 2)
			var steps []string
			for _, op := range x.ops {
				r := begun(m, 2, mode, 1, op)
				steps = through(t, r)
				if r.Frame.Ret != yes || r.Frame.Wake != (api.Wake{}) || r.Frame.Wait != (api.Wait{}) {
					t.Errorf("%v in the mode %d: the operation %d: %+v", x.ops, mode, op, r.Frame)
				}
			}
			want := x.steps
			if mode == api.Parked && x.ops[len(x.ops)-1] == api.RUnlock {
				want = slices.Concat(want, []string{"load 12 was 00000000", "load 13 was 00000000"})
			}
			if !slices.Equal(steps, want) {
				t.Errorf("%v in the mode %d: %q, want %q", x.ops, mode, steps, want)
			}
		}
	}
}

// P13.2: of a lock that nobody holds or waits for each operation ends with true, by whom it may be begun, and also RUnlock; but one who doesn't read isn't let up, and one who isn't in the queue has nobody to give it on to, and waits for that, by the chapter's lines.
func TestAloneFree(t *testing.T) {
	for _, mode := range append(spins(), api.Parked) {
		for op, ret := range map[int]int{api.RLock: yes, api.RUnlock: yes, api.Lock: yes, api.TryRLock: yes, api.TryLock: yes, api.TryUpgrade: no} {
			m := lock(t, 2)
			r := begun(m, 2, mode, 0, op)
			if through(t, r); r.Frame.Ret != ret {
				t.Errorf("the operation %d in the mode %d: %+v", op, mode, r.Frame)
			}
			if op == api.TryUpgrade && !slices.Equal(m.All(), make([]uint32, 16)) {
				t.Errorf("the operation %d in the mode %d: the cells are %x", op, mode, m.All())
			}
		}
		for op, n := range map[int]int{api.Unlock: 2, api.Downgrade: 3} {
			r := begun(lock(t, 2), 2, mode, 0, op)
			for range 100 {
				if r.Step(fq.Lines) {
					t.Errorf("the operation %d in the mode %d: %+v", op, mode, r.Frame)
				}
			}
			if r.Frame.Line != n || line.Stuck(*r) != (mode == api.Parked) {
				t.Errorf("the operation %d in the mode %d: %+v", op, mode, r.Frame)
			}
		}
	}
}

// togethers are operations that belong together.
func togethers() [][]int {
	return [][]int{
		{api.RLock, api.RUnlock},
		{api.TryRLock, api.RUnlock},
		{api.Lock, api.Unlock},
		{api.TryLock, api.Unlock},
		{api.Lock, api.Downgrade, api.RUnlock},
		{api.TryLock, api.Downgrade, api.RUnlock},
		{api.RLock, api.TryUpgrade, api.Unlock},
		{api.TryRLock, api.TryUpgrade, api.Unlock},
		{api.RLock, api.TryUpgrade, api.Downgrade, api.TryUpgrade, api.Downgrade, api.RUnlock},
		{api.Lock, api.Downgrade, api.TryUpgrade, api.Unlock},
	}
}

// P13.2: those that belong together end with true, and leave tail and count 0, whoever the task is, of all numbers of tasks, in all modes, also again and again, whatever was in the tasks' cells; no cell but these two, and the task's next and blocked, is touched.
func TestTogether(t *testing.T) {
	for _, ops := range togethers() {
		for _, n := range counts() {
			for _, task := range []int{0, n / 2, n - 1} {
				for _, mode := range append(spins(), api.Parked) {
					l := marked(size(n), 0, 0)
					m, _ := cells.From(l...)
					for range 3 {
						for _, op := range ops {
							r := begun(m, n, mode, task, op)
							through(t, r)
							if r.Frame.Ret != yes {
								t.Fatalf("%v, of %d tasks, in the mode %d: the operation %d: %+v", ops, n, mode, op, r.Frame)
							}
						}
						got := m.All()
						for _, c := range []int{8 + task, 8 + n + task} {
							got[c] = l[c]
						}
						if !slices.Equal(got, l) {
							t.Fatalf("%v, of %d tasks, in the mode %d: the cells are %x", ops, n, mode, m.All())
						}
					}
				}
			}
		}
	}
}

// P13.1: a frame that is new but for its words in A and B goes the same way, and keeps B.
func TestWordsAtFirst(t *testing.T) {
	for _, ops := range togethers() {
		for _, mode := range modes() {
			var want []string
			for i, w := range [][2]uint32{{0, 0}, {1, 9}, {2, 1}, {3, 0}, {9, 5}, {top, 0}, {half, top}} {
				m := lock(t, 2)
				var steps []string
				for _, op := range ops {
					r := begun(m, 2, mode, 1, op)
					r.Frame.A, r.Frame.B = w[0], w[1]
					steps = append(steps, through(t, r)...)
					if r.Frame.B != w[1] {
						t.Errorf("%v with %v: %+v", ops, w, r.Frame)
					}
				}
				if i == 0 {
					want = steps
				}
				if !slices.Equal(steps, want) {
					t.Errorf("%v with %v: %q, want %q", ops, w, steps, want)
				}
			}
		}
	}
}
