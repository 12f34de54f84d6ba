package wf_test

import (
	"encoding/binary"
	"slices"
	"testing"

	"stileman/api"
	"stileman/cells"
)

// leaves stands for RUnlock or Unlock, as the task's hold asks for; one that holds nothing passes over it.
const leaves = -1

// scene is how far all tasks are with what they do, one operation behind the other.
type scene struct {
	*crowd
	programs [][]int
	at       []int // each task's place in its program, of the next operation
}

// copied makes a scene like x, in new memory.
func (x scene) copied() scene {
	y := *x.crowd
	y.ledger = x.ledger.copied()
	y.m, _ = cells.From(x.m.All()...)
	y.runs, y.on = slices.Clone(x.runs), slices.Clone(x.on)
	for i := range y.runs {
		y.runs[i].Mem = y.m
	}
	return scene{crowd: &y, programs: x.programs, at: slices.Clone(x.at)}
}

// key tells scenes apart.
func (x scene) key() string {
	var b []byte
	for _, v := range x.m.All() {
		b = binary.BigEndian.AppendUint32(b, v)
	}
	for i := range x.n {
		f := x.runs[i].Frame
		b = binary.BigEndian.AppendUint32(b, f.A)
		for _, n := range []int{f.Op, f.Line, f.Wait.Stage, f.Wake.Cell, f.Wake.I, f.Ret, x.at[i], x.hold[i], x.asks[i]} {
			b = append(b, byte(n))
		}
		b = append(b, byte(slices.Index(x.queue, i)))
		for _, yes := range []bool{f.Wake.On, f.Wake.Hit, x.on[i], x.refused[i], x.leaving[i]} {
			b = append(b, map[bool]byte{true: 1}[yes])
		}
	}
	return string(b)
}

// next begins the task's next operation, if it is with none, and tells whether there is one.
func (x scene) next(task int) bool {
	for !x.on[task] && x.at[task] < len(x.programs[task]) {
		op, hold := x.programs[task][x.at[task]], x.hold[task]
		x.at[task]++
		if op == leaves {
			op = leaving(hold)
		}
		if op == api.TryUpgrade && hold != api.HoldRead || op == api.Downgrade && hold != api.HoldWrite || op == api.Rest {
			continue
		}
		x.begin(task, op)
	}
	return x.on[task]
}

// all looks at each scene to which any order of the tasks' steps leads, once: in each one all are through, or a step of somebody's leads to another one; and as no steps lead back, all get through, as long as each is picked again and again.
func (x scene) all() {
	x.t.Helper()
	number := map[string]int{x.key(): 0}
	open, ways := []scene{x}, [][]int{nil}
	for len(open) > 0 {
		x := open[len(open)-1]
		open = open[:len(open)-1]
		from, through := number[x.key()], true
		for task := range x.programs {
			y := x.copied()
			if !y.next(task) {
				continue
			}
			through = false
			y.step(task)
			key := y.key()
			to, seen := number[key]
			if !seen {
				to = len(number)
				number[key] = to
				ways = append(ways, nil)
				open = append(open, y)
			}
			if to != from {
				ways[from] = append(ways[from], to)
			}
		}
		if through {
			x.free()
		} else if len(ways[from]) == 0 {
			x.t.Fatalf("%v in the mode %d: nobody gets on: %+v", x.programs, x.mode, x.ledger)
		}
		if len(number) > 1<<19 {
			x.t.Fatalf("%v in the mode %d: there is no end of it", x.programs, x.mode)
		}
	}
	if goesRound(ways) {
		x.t.Fatalf("%v in the mode %d: the tasks may go round for ever", x.programs, x.mode)
	}
}

// goesRound tells whether some ways lead back to where they began.
func goesRound(ways [][]int) bool {
	into, left := make([]int, len(ways)), len(ways)
	for _, l := range ways {
		for _, to := range l {
			into[to]++
		}
	}
	var open []int
	for i, n := range into {
		if n == 0 {
			open = append(open, i)
		}
	}
	for ; len(open) > 0; left-- {
		l := ways[open[len(open)-1]]
		open = open[:len(open)-1]
		for _, to := range l {
			if into[to]--; into[to] == 0 {
				open = append(open, to)
			}
		}
	}
	return left > 0
}

// orders goes through all orders of the steps of tasks with these programs; tickets begin to count at base.
func orders(t *testing.T, mode int, base uint32, programs ...[]int) {
	t.Helper()
	n := len(programs)
	scene{crowd: gather(t, n, mode, base), programs: programs, at: make([]int, n)}.all()
}

// programs are what a task may do.
func programs() [][]int {
	return [][]int{
		{api.RLock, leaves},
		{api.Lock, leaves},
		{api.TryRLock, leaves},
		{api.TryLock, leaves},
		{api.RLock, api.TryUpgrade, leaves},
		{api.Lock, api.Downgrade, leaves},
		{api.TryLock, api.Downgrade, api.TryUpgrade, leaves},
		{api.RLock, leaves, api.Lock, leaves},
		{api.Lock, leaves, api.RLock, leaves},
		{api.TryRLock, api.TryUpgrade, api.Downgrade, leaves, api.TryLock, leaves},
	}
}

// P16.2: of two tasks, whatever order their steps come in, and wherever tickets begin to count: while one holds write no other one holds anything, no reader gets in while a writer waits, writers get in in the order of their tickets, tries are refused for what is in their way alone, nobody is left waiting, and all tickets are given back in the end.
func TestOrdersOfTwo(t *testing.T) {
	l := programs()
	for i, a := range l {
		for _, b := range l[i:] { // the tasks are alike but for their numbers
			for _, mode := range modes() {
				for _, base := range bases() {
					orders(t, mode, base, a, b)
				}
			}
		}
	}
}

// P16.2: likewise of three tasks, whose tickets go round; each one that is parked, and waits, is woken.
func TestOrdersOfThree(t *testing.T) {
	l := programs()[:6]
	for i, a := range l {
		for j, b := range l[i:] {
			for _, c := range l[i+j:] {
				for _, mode := range modes() {
					orders(t, mode, 255, a, b, c)
				}
			}
		}
	}
}
