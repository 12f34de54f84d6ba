package wf_test

import (
	"slices"
	"testing"

	"stileman/api"
	"stileman/cells"
	"stileman/line"
	"stileman/place"
	"stileman/wf"
)

// lock makes the memory of a lock for n tasks that nobody holds or waits for, and whose tickets begin to count at base.
func lock(t *testing.T, n int, base uint32) *cells.Memory {
	t.Helper()
	l, e := place.First(api.WritersFirst, n, base)
	if e != api.OK {
		t.Fatalf("a lock for %d tasks: %v", n, e)
	}
	m, _ := cells.From(l...)
	return m
}

// begun makes a run of the task, which begins the operation.
func begun(m *cells.Memory, n, mode, task, op int) *line.Run {
	return &line.Run{Mem: m, Map: place.Map{N: n}, Mode: mode, Task: task, Frame: api.Frame{Op: op}}
}

// through does all steps of the run's operation, and answers what each one did; it fails the test, if they don't end.
func through(t *testing.T, r *line.Run) (steps []string) {
	t.Helper()
	for range 400 {
		over := r.Step(wf.Lines)
		steps = append(steps, text(r))
		if over {
			return steps
		}
	}
	t.Fatalf("the operation %d doesn't end: %+v", r.Frame.Op, r.Frame)
	return nil
}

// P16.2, and the chapter's example: each operation by itself, step by step, of the last one of two tasks, in all modes; those that need a hold follow one that gets it. Tickets begin to count at 255, so that they go round. In the mode Parked who leaves, or goes down, looks at all watches.
func TestAloneSteps(t *testing.T) {
	read := []string{"load 0 was 00ffff00, 1 reg read", "cas 0 00ffff00 00ffff01 was 00ffff00, 1 admit"}
	write := []string{"add 0 00010000 was 00ffff00, 1 reg write", "load 0 was 0100ff00, 1 admit"}
	tryRead := []string{"load 0 was 00ffff00", "cas 0 00ffff00 00ffff01 was 00ffff00, 1 reg read, 1 admit"}
	tryWrite := []string{"load 0 was 00ffff00", "cas 0 00ffff00 0100ff00 was 00ffff00, 1 reg write, 1 admit"}
	release := []string{"add 0 ffffffff was 00ffff01, 1 release", "wakes"}
	leave := []string{"load 0 was 0100ff00", "add 0 ffff0100 was 0100ff00, 1 leave, 1 pass", "wakes"}
	up := []string{"load 0 was 00ffff01", "cas 0 00ffff01 0100ff00 was 00ffff01, 1 up"}
	down := []string{"load 0 was 0100ff00", "add 0 ffff0101 was 0100ff00, 1 down", "wakes"}
	for _, x := range []struct {
		ops   []int
		steps []string // of the last one; behind "wakes" in the mode Parked all watches are looked at
	}{
		{[]int{api.RLock}, read},
		{[]int{api.RLock, api.RUnlock}, release},
		{[]int{api.Lock}, write},
		{[]int{api.Lock, api.Unlock}, leave},
		{[]int{api.TryRLock}, tryRead},
		{[]int{api.TryRLock, api.RUnlock}, release},
		{[]int{api.TryLock}, tryWrite},
		{[]int{api.TryLock, api.Unlock}, leave},
		{[]int{api.RLock, api.TryUpgrade}, up},
		{[]int{api.TryRLock, api.TryUpgrade}, up},
		{[]int{api.RLock, api.TryUpgrade, api.Unlock}, leave},
		{[]int{api.RLock, api.TryUpgrade, api.Downgrade}, down},
		{[]int{api.Lock, api.Downgrade}, down},
		{[]int{api.TryLock, api.Downgrade}, down},
		{[]int{api.Lock, api.Downgrade, api.RUnlock}, []string{"add 0 ffffffff was 01000001, 1 release", "wakes"}},
		{[]int{api.Lock, api.Downgrade, api.TryUpgrade}, []string{"load 0 was 01000001", "cas 0 01000001 01010000 was 01000001, 1 up"}},
		{[]int{api.Lock, api.Unlock, api.Lock}, []string{"add 0 00010000 was 01000000, 1 reg write", "load 0 was 01010000, 1 admit"}},
		{[]int{api.Lock, api.Unlock, api.RLock}, []string{"load 0 was 01000000, 1 reg read", "cas 0 01000000 01000001 was 01000000, 1 admit"}},
		{[]int{api.Lock, api.Unlock, api.Lock, api.Unlock}, []string{"load 0 was 01010000", "add 0 00000100 was 01010000, 1 leave, 1 pass", "wakes"}},
		{[]int{api.Lock, api.Unlock, api.Lock, api.Downgrade}, []string{"load 0 was 01010000", "add 0 00000101 was 01010000, 1 down", "wakes"}},
	} {
		for _, mode := range append(spins(), api.Parked) {
			m := lock(t, 2, 255)
			var steps, want []string
			for _, op := range x.ops {
				r := begun(m, 2, mode, 1, op)
				steps = through(t, r)
				if r.Frame.Ret != yes || r.Frame.Wake != (api.Wake{}) || r.Frame.Wait != (api.Wait{}) {
					t.Errorf("%v in the mode %d: the operation %d: %+v", x.ops, mode, op, r.Frame)
				}
			}
			for _, s := range x.steps {
				switch {
				case s != "wakes":
					want = append(want, s)
				case mode == api.Parked:
					want = append(want, "load 12 was 00000000", "load 13 was 00000000")
				}
			}
			if !slices.Equal(steps, want) {
				t.Errorf("%v in the mode %d: %q, want %q", x.ops, mode, steps, want)
			}
		}
	}
}

// P16.2: of a lock that nobody holds or waits for each operation ends with true, by whom it may be begun, and also RUnlock, Unlock and Downgrade; but one who doesn't read isn't let up, by the chapter's lines.
func TestAloneFree(t *testing.T) {
	for _, mode := range append(spins(), api.Parked) {
		for _, x := range []struct {
			op, ret int
			left    uint32
		}{
			{api.RLock, yes, 0x00050501}, {api.Lock, yes, 0x00060500}, {api.TryRLock, yes, 0x00050501}, {api.TryLock, yes, 0x00060500},
			{api.RUnlock, yes, 0x000504ff}, {api.Unlock, yes, 0x00050600}, {api.Downgrade, yes, 0x00050601}, {api.TryUpgrade, no, 0x00050500},
		} {
			m := lock(t, 2, 5)
			want := m.All()
			want[0] = x.left
			r := begun(m, 2, mode, 0, x.op)
			if through(t, r); r.Frame.Ret != x.ret || !slices.Equal(m.All(), want) {
				t.Errorf("the operation %d in the mode %d: %+v, the cells are %x", x.op, mode, r.Frame, m.All())
			}
		}
	}
}

// togethers are operations that belong together.
func togethers() [][]int {
	return [][]int{
		{api.RLock, api.RUnlock},
		{api.TryRLock, api.RUnlock},
		{api.Lock, api.Unlock},
		{api.TryLock, api.Unlock},
		{api.Lock, api.Downgrade, api.RUnlock},
		{api.TryLock, api.Downgrade, api.RUnlock},
		{api.RLock, api.TryUpgrade, api.Unlock},
		{api.TryRLock, api.TryUpgrade, api.Unlock},
		{api.RLock, api.TryUpgrade, api.Downgrade, api.TryUpgrade, api.Downgrade, api.RUnlock},
		{api.Lock, api.Downgrade, api.TryUpgrade, api.Unlock},
	}
}

// tickets are how many tickets the operations draw, each of which ends with true.
func tickets(ops []int) (n uint32) {
	for _, op := range ops {
		if op == api.Lock || op == api.TryLock || op == api.TryUpgrade {
			n++
		}
	}
	return n
}

// given is the word v when so many tickets more were drawn, and given back.
func given(v, many uint32) uint32 {
	_, o, r := fields(v)
	return v>>16<<16 + many*w + (o+many)%256*256 + r
}

// P16.2: those that belong together end with true, and leave R 0, and I as O, whoever the task is, of all numbers of tasks, in all modes, also again and again; no other cell is touched.
func TestTogether(t *testing.T) {
	for _, ops := range togethers() {
		for _, n := range counts() {
			for _, task := range []int{0, n / 2, n - 1} {
				for _, mode := range append(spins(), api.Parked) {
					for _, v := range []uint32{0, 0x00050500, 0x00fefe00, 0x00ffff00, 0x5affff00, 0xffffff00} {
						together(t, ops, line.Run{Map: place.Map{N: n}, Mode: mode, Task: task}, v, 3)
					}
				}
			}
		}
	}
}

// P16.2: likewise from each ticket on, until they have gone round.
func TestTogetherFromAll(t *testing.T) {
	for _, ops := range togethers() {
		for _, mode := range modes() {
			for base := range uint32(256) {
				together(t, ops, line.Run{Map: place.Map{N: 1}, Mode: mode}, word(base, base, 0), 1)
			}
			together(t, ops, line.Run{Map: place.Map{N: 2}, Mode: mode, Task: 1}, 0, 600)
		}
	}
}

// together does the operations so many times, from the word v on, by runs like r, and fails the test, unless each ends with true, and the cells are as they are to be then.
func together(t *testing.T, ops []int, r line.Run, v uint32, times int) {
	t.Helper()
	n := r.Map.N
	m, _ := cells.From(marked(8+4*n, v)...)
	for range times {
		for _, op := range ops {
			r := begun(m, n, r.Mode, r.Task, op)
			through(t, r)
			if r.Frame.Ret != yes {
				t.Fatalf("%v, of %d tasks, in the mode %d: the operation %d: %+v", ops, n, r.Mode, op, r.Frame)
			}
		}
		v = given(v, tickets(ops))
		if all := m.All(); !slices.Equal(all, marked(8+4*n, v)) || !isFree(v) || v%256 != 0 {
			t.Fatalf("%v, of %d tasks, in the mode %d: the cells are %x, want %x", ops, n, r.Mode, all, v)
		}
	}
}

// P16.2: where others read, those that belong together leave the word as it was, and so do the tries that are refused for that.
func TestTogetherBesideReaders(t *testing.T) {
	for _, ops := range [][]int{{api.RLock, api.RUnlock}, {api.TryRLock, api.RUnlock}, {api.TryLock}, {api.RLock, api.TryUpgrade, api.RUnlock}} {
		for _, v := range []uint32{1, 2, 63, 0x00070701, 0x00ffff3f, 0x5affff02} {
			for _, mode := range append(spins(), api.Parked) {
				beside(t, ops, v, mode)
			}
		}
	}
}

// P16.2: where writers hold, or wait, tries are refused, and leave the word as it was.
func TestTriesBesideWriters(t *testing.T) {
	for _, op := range []int{api.TryRLock, api.TryLock, api.TryUpgrade} {
		for _, v := range []uint32{0x00010000, 0x00030001, 0x00080701, 0x0000ff00, 0x003fff01, 0x0000ff01, 0x5a00ff02, 0xff00ff00} {
			for _, mode := range append(spins(), api.Parked) {
				beside(t, []int{op}, v, mode)
			}
		}
	}
}

// beside does the operations where the word is v, and fails the test, unless the tries of a writer, and those beside one, are refused, all others end with true, and all cells are as they were.
func beside(t *testing.T, ops []int, v uint32, mode int) {
	t.Helper()
	l := marked(16, v)
	m, _ := cells.From(l...)
	for _, op := range ops {
		want := yes
		if op == api.TryLock || op == api.TryUpgrade || !isFree(v) {
			want = no
		}
		r := begun(m, 2, mode, 1, op)
		if through(t, r); r.Frame.Ret != want {
			t.Errorf("%v beside %x, in the mode %d: the operation %d: %+v", ops, v, mode, op, r.Frame)
		}
	}
	if all := m.All(); !slices.Equal(all, l) {
		t.Errorf("%v beside %x, in the mode %d: the cells are %x", ops, v, mode, all)
	}
}

// P16.1: a frame that is new but for its words in A and B goes the same way, and keeps B.
func TestWordsAtFirst(t *testing.T) {
	for _, ops := range togethers() {
		for _, mode := range modes() {
			var want []string
			for i, kept := range [][2]uint32{{0, 0}, {1, 9}, {2, 1}, {w, w}, {w + 1, 0}, {0x00ffff00, 5}, {0x00fefe00, 7}, {top, 0}, {half, top}} {
				m := lock(t, 2, 254)
				var steps []string
				for _, op := range ops {
					r := begun(m, 2, mode, 1, op)
					r.Frame.A, r.Frame.B = kept[0], kept[1]
					steps = append(steps, through(t, r)...)
					if r.Frame.B != kept[1] {
						t.Errorf("%v with %v: %+v", ops, kept, r.Frame)
					}
				}
				if i == 0 {
					want = steps
				}
				if !slices.Equal(steps, want) {
					t.Errorf("%v with %v: %q, want %q", ops, kept, steps, want)
				}
			}
		}
	}
}
