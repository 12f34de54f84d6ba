package pq_test

import (
	"slices"
	"testing"

	"stileman/api"
	"stileman/cells"
	"stileman/line"
	"stileman/place"
	"stileman/pq"
)

// lock makes the memory of a lock for n tasks that nobody holds or waits for.
func lock(t *testing.T, n int, base uint32) *cells.Memory {
	t.Helper()
	l, e := place.First(api.PhaseQueue, n, base)
	if e != api.OK {
		t.Fatalf("a lock for %d tasks: %v", n, e)
	}
	m, _ := cells.From(l...)
	return m
}

// begun makes a run of the task, which begins the operation.
func begun(m *cells.Memory, n, mode, task, op int) *line.Run {
	return &line.Run{Mem: m, Map: place.Map{N: n}, Mode: mode, Task: task, Frame: api.Frame{Op: op}}
}

// through does all steps of the run's operation, and answers what each one did; it fails the test, if they don't end.
func through(t *testing.T, r *line.Run) (steps []string) {
	t.Helper()
	for range 600 {
		over := r.Step(pq.Lines)
		steps = append(steps, text(r))
		if over {
			return steps
		}
	}
	t.Fatalf("the operation %d doesn't end: %+v", r.Frame.Op, r.Frame)
	return nil
}

// solo is some operations of one task, one behind the other, and the steps of the last one; behind "wakes" in the mode Parked all watches are looked at.
type solo struct {
	base  uint32
	ops   []int
	steps []string
}

// solos are each operation, in both phases, and where the words go round; those that need a hold follow one that gets it. The task is the last one of two.
func solos() []solo {
	enter := []string{"store 9 00000000 was 00000000", "store 11 00000001 was 00000000", "swap 2 00000002 was 00000000, 1 reg write"}
	slip := []string{"store 9 00000000 was 00000000", "cas 2 00000000 00000002 was 00000000, 1 reg write"}
	give := []string{"load 9 was 00000000", "cas 2 00000002 00000000 was 00000002, 1 pass"}
	with := func(l []string, more ...string) []string { return slices.Concat(l, more) }
	out := func(l []string, steps ...string) []string { return slices.Concat(steps, l) }
	return []solo{
		{0, []int{api.RLock}, []string{"add 0 00000100 was 00000000, 1 reg read, 1 admit"}},
		{top, []int{api.RLock}, []string{"add 0 00000100 was ffffff00, 1 reg read, 1 admit"}},
		{7, []int{api.RLock, api.RUnlock}, []string{"add 1 00000100 was 00000700, 1 release", "wakes"}},
		{top, []int{api.TryRLock, api.RUnlock}, []string{"add 1 00000100 was ffffff00, 1 release", "wakes"}},
		{7, []int{api.TryRLock}, []string{"load 0 was 00000700", "cas 0 00000700 00000800 was 00000700, 1 reg read, 1 admit"}},
		{top, []int{api.TryRLock}, []string{"load 0 was ffffff00", "cas 0 ffffff00 00000000 was ffffff00, 1 reg read, 1 admit"}},
		{0, []int{api.Lock}, with(enter, "load 3 was 00000000", "add 0 00000002 was 00000000, 1 present", "load 1 was 00000000, 1 admit")},
		{7, []int{api.Lock}, with(enter, "load 3 was 00000007", "add 0 00000003 was 00000700, 1 present", "load 1 was 00000700, 1 admit")},
		{top, []int{api.Lock}, with(enter, "load 3 was ffffffff", "add 0 00000003 was ffffff00, 1 present", "load 1 was ffffff00, 1 admit")},
		{6, []int{api.Lock, api.Unlock}, out(give, "load 3 was 00000006", "add 0 fffffffe was 00000602, 1 leave", "wakes", "store 3 00000007 was 00000006")},
		{top, []int{api.Lock, api.Unlock}, out(give, "load 3 was ffffffff", "add 0 fffffffd was ffffff03, 1 leave", "wakes", "store 3 00000000 was ffffffff")},
		{0, []int{api.TryLock}, with(slip, "load 0 was 00000000", "load 1 was 00000000", "load 3 was 00000000", "add 0 00000002 was 00000000, 1 present", "load 1 was 00000000, 1 admit")},
		{top, []int{api.TryLock}, with(slip, "load 0 was ffffff00", "load 1 was ffffff00", "load 3 was ffffffff", "add 0 00000003 was ffffff00, 1 present", "load 1 was ffffff00, 1 admit")},
		{9, []int{api.TryLock, api.Unlock}, out(give, "load 3 was 00000009", "add 0 fffffffd was 00000903, 1 leave", "wakes", "store 3 0000000a was 00000009")},
		{7, []int{api.RLock, api.TryUpgrade}, with(slip, "load 0 was 00000800", "load 1 was 00000700", "load 3 was 00000007", "add 0 00000003 was 00000800, 1 present", "load 1 was 00000700, 1 up", "add 1 00000100 was 00000700")},
		{top - 1, []int{api.RLock, api.TryUpgrade}, with(slip, "load 0 was ffffff00", "load 1 was fffffe00", "load 3 was fffffffe", "add 0 00000002 was ffffff00, 1 present", "load 1 was fffffe00, 1 up", "add 1 00000100 was fffffe00")},
		{top, []int{api.TryRLock, api.TryUpgrade}, with(slip, "load 0 was 00000000", "load 1 was ffffff00", "load 3 was ffffffff", "add 0 00000003 was 00000000, 1 present", "load 1 was ffffff00, 1 up", "add 1 00000100 was ffffff00")},
		{7, []int{api.RLock, api.TryUpgrade, api.Unlock}, out(give, "load 3 was 00000007", "add 0 fffffffd was 00000803, 1 leave", "wakes", "store 3 00000008 was 00000007")},
		{7, []int{api.Lock, api.Downgrade}, out(give, "load 3 was 00000007", "add 0 000000fd was 00000703, 1 down", "wakes", "store 3 00000008 was 00000007")},
		{6, []int{api.TryLock, api.Downgrade}, out(give, "load 3 was 00000006", "add 0 000000fe was 00000602, 1 down", "wakes", "store 3 00000007 was 00000006")},
		{half, []int{api.RLock, api.TryUpgrade, api.Downgrade}, out(give, "load 3 was 80000000", "add 0 000000fe was 00000102, 1 down", "wakes", "store 3 80000001 was 80000000")},
		{half - 1, []int{api.Lock, api.Downgrade, api.RUnlock}, []string{"add 1 00000100 was ffffff00, 1 release", "wakes"}},
	}
}

// P14.2, and the chapter's example: each operation by itself, step by step, in all modes.
func TestAloneSteps(t *testing.T) {
	for _, x := range solos() {
		for _, mode := range append(spins(), api.Parked) {
			m := lock(t, 2, x.base)
			var steps, want []string
			for _, op := range x.ops {
				r := begun(m, 2, mode, 1, op)
				steps = through(t, r)
				if r.Frame.Ret != yes || r.Frame.Wake != (api.Wake{}) || r.Frame.Wait != (api.Wait{}) {
					t.Errorf("%v, from %x, in the mode %d: the operation %d: %+v", x.ops, x.base, mode, op, r.Frame)
				}
			}
			for _, s := range x.steps {
				switch {
				case s != "wakes":
					want = append(want, s)
				case mode == api.Parked:
					want = append(want, "load 12 was 00000000", "load 13 was 00000000")
				}
			}
			if !slices.Equal(steps, want) {
				t.Errorf("%v, from %x, in the mode %d: %q, want %q", x.ops, x.base, mode, steps, want)
			}
		}
	}
}

// P14.2: of a lock that nobody holds or waits for each operation ends with true, by whom it may be begun, and also RUnlock; but one who doesn't read waits for its own reading when it wants up, and one who isn't in the queue has nobody to give it on to, and waits for that, by the chapter's lines.
func TestAloneFree(t *testing.T) {
	for _, base := range bases() {
		for _, mode := range append(spins(), api.Parked) {
			for _, op := range []int{api.RLock, api.RUnlock, api.Lock, api.TryRLock, api.TryLock} {
				r := begun(lock(t, 2, base), 2, mode, 0, op)
				if through(t, r); r.Frame.Ret != yes {
					t.Errorf("the operation %d in the mode %d, from %x: %+v", op, mode, base, r.Frame)
				}
			}
			for op, n := range map[int]int{api.TryUpgrade: 6, api.Unlock: 5, api.Downgrade: 5} {
				r := begun(lock(t, 2, base), 2, mode, 0, op)
				for range 100 {
					if r.Step(pq.Lines) {
						t.Errorf("the operation %d in the mode %d, from %x: %+v", op, mode, base, r.Frame)
					}
				}
				if r.Frame.Line != n || line.Stuck(*r) != (mode == api.Parked) {
					t.Errorf("the operation %d in the mode %d, from %x: %+v", op, mode, base, r.Frame)
				}
			}
		}
	}
}

// together are operations that belong together, and how many readers and phases they count.
type together struct {
	ops             []int
	readers, phases uint32
}

// togethers are those that belong together.
func togethers() []together {
	return []together{
		{[]int{api.RLock, api.RUnlock}, 1, 0},
		{[]int{api.TryRLock, api.RUnlock}, 1, 0},
		{[]int{api.Lock, api.Unlock}, 0, 1},
		{[]int{api.TryLock, api.Unlock}, 0, 1},
		{[]int{api.Lock, api.Downgrade, api.RUnlock}, 1, 1},
		{[]int{api.TryLock, api.Downgrade, api.RUnlock}, 1, 1},
		{[]int{api.RLock, api.TryUpgrade, api.Unlock}, 1, 1},
		{[]int{api.TryRLock, api.TryUpgrade, api.Unlock}, 1, 1},
		{[]int{api.RLock, api.TryUpgrade, api.Downgrade, api.TryUpgrade, api.Downgrade, api.RUnlock}, 3, 2},
		{[]int{api.Lock, api.Downgrade, api.TryUpgrade, api.Unlock}, 1, 2},
	}
}

// own are the words of the lock's own cells: rin, rout, tail, phase.
type own [4]uint32

// ownOf are the words of the lock's own cells.
func ownOf(m *cells.Memory) (w own) {
	for c := range w {
		w[c] = m.Load(c)
	}
	return w
}

// counted are the own words of a lock that nobody holds or waits for, by which so many readers and phases were counted since the base.
func counted(base, readers, phases uint32) own {
	return own{256 * (base + readers), 256 * (base + readers), 0, base + phases}
}

// P14.2: those that belong together end with true, and leave rin and rout alike, and the queue empty, wherever readers and phases began to count, whoever the task is, of all numbers of tasks, in all modes, also again and again, whatever was in the tasks' cells; no cell but the lock's own, and the task's next and blocked, is touched.
func TestTogether(t *testing.T) {
	for _, x := range togethers() {
		for _, base := range append(bases(), 77) {
			for _, n := range counts() {
				for _, task := range []int{0, n / 2, n - 1} {
					for _, mode := range []int{api.Spin, 0, 3, api.Parked} {
						first := counted(base, 0, 0)
						l := marked(size(n), first[:]...)
						m, _ := cells.From(l...)
						for k := range uint32(3) {
							for _, op := range x.ops {
								r := begun(m, n, mode, task, op)
								through(t, r)
								if r.Frame.Ret != yes {
									t.Fatalf("%v, from %x, of %d tasks, in the mode %d: the operation %d: %+v", x.ops, base, n, mode, op, r.Frame)
								}
							}
							got := m.All()
							for _, c := range []int{8 + task, 8 + n + task} {
								got[c] = l[c]
							}
							if ownOf(m) != counted(base, (k+1)*x.readers, (k+1)*x.phases) || !slices.Equal(got[4:], l[4:]) {
								t.Fatalf("%v, from %x, of %d tasks, in the mode %d: the cells are %x", x.ops, base, n, mode, m.All())
							}
						}
					}
				}
			}
		}
	}
}

// P14.1: a frame that is new but for its words in A and B goes the same way.
func TestWordsAtFirst(t *testing.T) {
	for _, x := range togethers() {
		for _, mode := range modes() {
			var want []string
			for i, w := range [][2]uint32{{0, 0}, {1, 9}, {2, 1}, {3, 0}, {9, 5}, {top, 0}, {half, top}, {0x502, 6}, {0x503, 3}} {
				m := lock(t, 2, 5)
				var steps []string
				for _, op := range x.ops {
					r := begun(m, 2, mode, 1, op)
					r.Frame.A, r.Frame.B = w[0], w[1]
					steps = append(steps, through(t, r)...)
				}
				if i == 0 {
					want = steps
				}
				if !slices.Equal(steps, want) {
					t.Errorf("%v with %v: %q, want %q", x.ops, w, steps, want)
				}
			}
		}
	}
}
