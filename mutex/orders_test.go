package mutex_test

import (
	"encoding/binary"
	"slices"
	"testing"

	"stileman/api"
	"stileman/cells"
)

// scene is how far all tasks are with what they do, one call behind the other.
type scene struct {
	*crowd
	programs [][]int
	at       []int // each task's place in its program, of the next call
}

// copied makes a scene like x, in new memory.
func (x scene) copied() scene {
	y := *x.crowd
	y.queue, y.entered = slices.Clone(x.queue), slices.Clone(x.entered)
	y.m, _ = cells.From(x.m.All()...)
	y.runs, y.with = slices.Clone(x.runs), slices.Clone(x.with)
	for i := range y.runs {
		y.runs[i].Mem = y.m
	}
	return scene{crowd: &y, programs: x.programs, at: slices.Clone(x.at)}
}

// key tells scenes apart.
func (x scene) key() string {
	var b []byte
	small := func(l ...int) {
		for _, n := range l {
			b = append(b, byte(n))
		}
	}
	for _, v := range x.m.All() {
		b = binary.BigEndian.AppendUint32(b, v)
	}
	for i := range x.n {
		f := x.runs[i].Frame
		b = binary.BigEndian.AppendUint32(b, f.A)
		small(f.Line, f.Wait.Stage, f.Wake.Cell, f.Wake.I, f.Ret, x.with[i], x.at[i])
		for _, yes := range []bool{f.Wake.On, f.Wake.Hit} {
			b = append(b, map[bool]byte{true: 1}[yes])
		}
	}
	small(x.in)
	small(x.queue...)
	return string(b)
}

// next begins the task's next call, if it is with none, and tells whether there is one; who didn't get in doesn't give on.
func (x scene) next(task int) bool {
	for x.with[task] == 0 && x.at[task] < len(x.programs[task]) {
		what := x.programs[task][x.at[task]]
		x.at[task]++
		if what != gives || x.in == task {
			x.begin(task, what)
		}
	}
	return x.with[task] != 0
}

// all looks at each scene to which any order of the tasks' steps leads, once: in each one all are through, or a step of somebody's leads to another one; and as no steps lead back, all get through, as long as each is picked again and again.
func (x scene) all() {
	x.t.Helper()
	number := map[string]int{x.key(): 0}
	open, ways := []scene{x}, [][]int{nil}
	for len(open) > 0 {
		x := open[len(open)-1]
		open = open[:len(open)-1]
		from, through := number[x.key()], true
		for task := range x.programs {
			y := x.copied()
			if !y.next(task) {
				continue
			}
			through = false
			y.step(task)
			key := y.key()
			to, seen := number[key]
			if !seen {
				to = len(number)
				number[key] = to
				ways = append(ways, nil)
				open = append(open, y)
			}
			if to != from {
				ways[from] = append(ways[from], to)
			}
		}
		if through {
			x.left()
		} else if len(ways[from]) == 0 {
			x.t.Fatalf("%v in the mode %d: nobody gets on: %+v", x.programs, x.mode, x.ledger)
		}
		if len(number) > 1<<19 {
			x.t.Fatalf("%v in the mode %d: there is no end of it", x.programs, x.mode)
		}
	}
	if goesRound(ways) {
		x.t.Fatalf("%v in the mode %d: the tasks may go round for ever", x.programs, x.mode)
	}
}

// goesRound tells whether some ways lead back to where they began.
func goesRound(ways [][]int) bool {
	into, left := make([]int, len(ways)), 0
	for _, l := range ways {
		for _, to := range l {
			into[to]++
		}
	}
	var open []int
	for i, n := range into {
		if n == 0 {
			open = append(open, i)
		}
	}
	for len(open) > 0 {
		l := ways[open[len(open)-1]]
		open = open[:len(open)-1]
		left++
		for _, to := range l {
			if into[to]--; into[to] == 0 {
				open = append(open, to)
			}
		}
	}
	return left < len(ways)
}

// orders goes through all orders of the steps of tasks with these programs.
func orders(t *testing.T, mode int, programs ...[]int) {
	t.Helper()
	n := len(programs)
	scene{crowd: gather(t, n, mode, 0), programs: programs, at: make([]int, n)}.all()
}

// P12.1, P12.2, P12.3: of two tasks, whatever order their steps come in: at most one is in at a time, they get in in the order of their swaps, a try gets in if nobody is in or waits, and nobody is left.
func TestOrdersOfTwo(t *testing.T) {
	l := [][]int{
		{enters, gives},
		{tries, gives},
		{enters, gives, enters, gives},
		{tries, gives, enters, gives},
		{enters, gives, tries, gives, tries, gives},
		{enters, gives, enters, gives, enters, gives},
	}
	for _, a := range l {
		for _, b := range l {
			for _, mode := range modes() {
				orders(t, mode, a, b)
			}
		}
	}
}

// P12.1, P12.2, P12.3: likewise of three and, where they spin, of four.
func TestOrdersOfMore(t *testing.T) {
	one, try, two := []int{enters, gives}, []int{tries, gives}, []int{enters, gives, enters, gives}
	for _, mode := range modes() {
		orders(t, mode, one, one, one)
		orders(t, mode, try, one, one)
		orders(t, mode, one, try, try)
		orders(t, mode, one, one, two)
	}
	orders(t, api.Spin, try, two, two)
	orders(t, api.Spin, two, two, two)
	orders(t, api.Spin, one, one, one, try)
	orders(t, api.Spin, one, one, one, one)
}
