package mutex_test

import (
	"strconv"
	"strings"
	"testing"

	"stileman/api"
	"stileman/line"
	"stileman/mutex"
	"stileman/place"
)

// P12.1, and the chapter's example: by itself a task enters by three steps, and gives on by two, in both modes, also again and again.
func TestAlone(t *testing.T) {
	for _, mode := range append(spins(), api.Parked) {
		x := gather(t, 2, mode, 0)
		for range 3 {
			x.m.Store(9, 7) // what is left there is of no matter
			blocked := hex(x.m.Load(11))
			x.does(1, enters, "store 9 00000000 was 00000007", "store 11 00000001 was "+blocked, "swap 0 00000002 was 00000000, 1 reg write")
			x.does(1, gives, "load 9 was 00000000", "cas 0 00000002 00000000 was 00000002, 1 leave, 1 pass")
			x.left()
		}
	}
}

// P12.2: by itself a try gets in by two steps, and is refused by two, of one that is in by a try, and by entering.
func TestTryAlone(t *testing.T) {
	for _, mode := range append(spins(), api.Parked) {
		x := gather(t, 2, mode, 2)
		x.does(0, tries, "store 8 00000000 was 00000000", "cas 2 00000000 00000001 was 00000000")
		x.does(1, tries, "store 9 00000000 was 00000000", "cas 2 00000000 00000002 was 00000001")
		x.does(0, gives, "load 8 was 00000000", "cas 2 00000001 00000000 was 00000001, 0 leave, 0 pass")
		x.does(1, enters, "store 9 00000000 was 00000000", "store 11 00000001 was 00000000", "swap 2 00000002 was 00000000, 1 reg write")
		x.does(0, tries, "store 8 00000000 was 00000000", "cas 2 00000000 00000001 was 00000002")
		x.does(1, gives, "load 9 was 00000000", "cas 2 00000002 00000000 was 00000002, 1 leave, 1 pass")
		x.left()
		if x.entered[0] != 1 || x.entered[1] != 1 {
			t.Errorf("in the mode %d: %+v", mode, x.ledger)
		}
	}
}

// P12.1, P12.3: one enters behind another, in the mode Spin: who gives on sees it at once.
func TestBehind(t *testing.T) {
	x := gather(t, 2, api.Spin, 0)
	x.does(0, enters, "store 8 00000000 was 00000000", "store 10 00000001 was 00000000", "swap 0 00000001 was 00000000, 0 reg write")
	x.begin(1, enters)
	x.goes(1, "store 9 00000000 was 00000000", "store 11 00000001 was 00000000", "swap 0 00000002 was 00000001, 1 reg write")
	x.goes(1, "store 8 00000002 was 00000000", "load 11 was 00000001", "load 11 was 00000001")
	x.does(0, gives, "load 8 was 00000002", "store 11 00000000 was 00000001, 0 leave, 0 pass")
	x.goes(1, "load 11 was 00000000")
	x.over(1)
	x.does(1, gives, "load 9 was 00000000", "cas 0 00000002 00000000 was 00000002, 1 leave, 1 pass")
	x.left()
}

// P12.1, P12.3: likewise in the mode Parked, where both wait: who gives on for the one behind it to tell that, and that one to be given the queue; each is stuck until the other wakes it.
func TestBehindParked(t *testing.T) {
	x := gather(t, 2, api.Parked, 0)
	x.does(0, enters, "store 8 00000000 was 00000000", "store 10 00000001 was 00000000", "swap 0 00000001 was 00000000, 0 reg write")
	x.begin(1, enters)
	x.goes(1, "store 9 00000000 was 00000000", "store 11 00000001 was 00000000", "swap 0 00000002 was 00000001, 1 reg write")
	x.begin(0, gives)
	x.goes(0, "load 8 was 00000000", "cas 0 00000001 00000000 was 00000002", "load 8 was 00000000", "store 12 00000009 was 00000000", "load 8 was 00000000", "", "")
	x.stuck(0, true)
	x.goes(1, "store 8 00000002 was 00000000", "load 12 was 00000009", "store 14 00000001 was 00000000", "load 13 was 00000000")
	x.stuck(0, false)
	x.goes(1, "load 11 was 00000001", "store 13 0000000c was 00000000", "load 11 was 00000001", "")
	x.stuck(1, true)
	x.goes(0, "swap 14 00000000 was 00000001", "load 8 was 00000002", "store 12 00000000 was 00000009", "store 11 00000000 was 00000001, 0 leave, 0 pass")
	x.stuck(1, true)
	x.goes(0, "load 12 was 00000000", "load 13 was 0000000c", "store 15 00000001 was 00000000")
	x.over(0)
	x.stuck(1, false)
	x.goes(1, "swap 15 00000000 was 00000001", "load 11 was 00000000", "store 13 00000000 was 0000000c")
	x.over(1)
	x.does(1, gives, "load 9 was 00000000", "cas 0 00000002 00000000 was 00000002, 1 leave, 1 pass")
	x.left()
}

// stuck fails the test, unless the task is stuck, or isn't.
func (x *crowd) stuck(task int, want bool) {
	x.t.Helper()
	if line.Stuck(x.runs[task]) != want {
		x.t.Fatalf("the task %d is stuck %v: %+v", task, !want, x.runs[task].Frame)
	}
}

// P12.1, P12.2: the first and the last one of 64 tasks, and the only one: their cells, and what names them.
func TestEdgeTasks(t *testing.T) {
	steps := func(number, next, blocked, task string) *strings.Replacer {
		return strings.NewReplacer("%n", next, "%b", blocked, "%t", number, "%i", task)
	}
	for _, x := range []struct {
		n, task int
		names   *strings.Replacer
	}{
		{1, 0, steps("00000001", "8", "9", "0")},
		{64, 0, steps("00000001", "8", "72", "0")},
		{64, 63, steps("00000040", "71", "135", "63")},
	} {
		for _, mode := range modes() {
			y := gather(t, x.n, mode, 7)
			y.does(x.task, enters, x.names.Replace("store %n 00000000 was 00000000"), x.names.Replace("store %b 00000001 was 00000000"), x.names.Replace("swap 7 %t was 00000000, %i reg write"))
			y.does(x.task, gives, x.names.Replace("load %n was 00000000"), x.names.Replace("cas 7 %t 00000000 was %t, %i leave, %i pass"))
			y.does(x.task, tries, x.names.Replace("store %n 00000000 was 00000000"), x.names.Replace("cas 7 00000000 %t was 00000000"))
			y.does(x.task, gives, x.names.Replace("load %n was 00000000"), x.names.Replace("cas 7 %t 00000000 was %t, %i leave, %i pass"))
			y.left()
		}
	}
}

// P12.1: the first one of 64 tasks gives on to the last one, and the last one to the first, which is woken as the 64th, and as the first.
func TestEdgesBehind(t *testing.T) {
	for _, mode := range modes() {
		for _, x := range [][2]int{{0, 63}, {63, 0}, {0, 1}, {62, 63}} {
			y := gather(t, 64, mode, 0)
			y.begin(x[0], enters)
			y.ends(x[0])
			y.begin(x[1], enters)
			y.waits(x[1])
			y.begin(x[0], gives)
			y.ends(x[0])
			if mode == api.Parked {
				if got, want := text(&y.runs[x[0]]), "load 199 was 00000000"; x[1] != 63 && got != want {
					t.Errorf("%v: the last step is %s", x, got)
				}
				if v := y.m.Load(200 + x[1]); v != 1 {
					t.Errorf("%v: the permit is %d", x, v)
				}
			}
			y.ends(x[1])
			y.begin(x[1], gives)
			y.ends(x[1])
			y.left()
		}
	}
}

// P12.1: a wake-up that is on at the step's begin goes first: the line is done when that is through.
func TestWakeFirst(t *testing.T) {
	for _, what := range []int{enters, gives, tries} {
		for n := range 5 {
			m := memory(2, set{12: 6, 8: 1, 9: 1, 0: 2})
			r := line.Run{Mem: m, Map: place.Map{N: 2}, Mode: api.Parked, Task: 1}
			r.Frame = api.Frame{Line: n, A: 1, Wake: api.Wake{On: true, Cell: 5}}
			calls := 0
			step := func(r *line.Run) {
				calls++
				call{what: what, notes: []int{api.NPass}}.does(r)
			}
			for i, want := range []string{"load 12 was 00000006", "store 14 00000001 was 00000000", "load 13 was 00000000"} {
				r.Step(step)
				if text(&r) != want || calls != 0 || r.Frame.Line != n || r.Frame.A != 1 {
					t.Fatalf("%d, the line %d, the step %d: %s, %+v", what, n, i, text(&r), r.Frame)
				}
			}
			r.Step(step)
			if calls != 1 {
				t.Errorf("%d, the line %d: %d calls", what, n, calls)
			}
		}
	}
}

// P12.1: in the mode Parked the lines 3 and a + 3 alone begin a wake-up, of the cell that they store in; in all others none does.
func TestWakes(t *testing.T) {
	for _, mode := range append(spins(), api.Parked) {
		for task := range 3 {
			for to := range 3 {
				r := line.Run{Mem: memory(3, nil), Map: place.Map{N: 3}, Mode: mode, Task: task, Frame: api.Frame{Line: 3, A: uint32(to) + 1}}
				s := r
				mutex.Enter(&r, 0, api.HoldRead)
				mutex.Give(&s, 0, 0)
				want := api.Wake{}
				if mode == api.Parked {
					want = api.Wake{On: true, Cell: 8 + to}
				}
				if r.Frame.Wake != want {
					t.Errorf("the task %d behind %s in the mode %d: %+v", task, strconv.Itoa(to), mode, r.Frame)
				}
				if want.On {
					want.Cell = 11 + to
				}
				if s.Frame.Wake != want {
					t.Errorf("the task %d ahead of %s in the mode %d: %+v", task, strconv.Itoa(to), mode, s.Frame)
				}
			}
		}
	}
}
