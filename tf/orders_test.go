package tf_test

import (
	"testing"

	"stileman/api"
	"stileman/cells"
	"stileman/line"
	"stileman/place"
	"stileman/tf"
)

// most is how many tasks a scene has at most.
const most = 3

// leaves stands for RUnlock or Unlock, as the task's hold asks for; one that holds nothing passes over it.
const leaves = -1

// scene is how far all tasks are, and what they hold.
type scene struct {
	words [8 + 4*most]uint32
	tasks [most]actor
	queue [most]int // the tasks that are registered and not admitted, and 1 more, in their order
}

// actor is how far a task is with its program.
type actor struct {
	at    int // its place in the program, of the operation under way, or else the next one
	on    bool
	hold  int
	frame api.Frame
}

// story is what the tasks do, one operation behind the other.
type story struct {
	t        *testing.T
	mode     int
	programs [][]int
}

// next begins the task's next operation, if it is with none, and tells whether there is one.
func (s *story) next(x *actor, program []int) bool {
	for !x.on && x.at < len(program) {
		op := program[x.at]
		if op == leaves {
			op = []int{api.Rest, api.RUnlock, api.Unlock}[x.hold]
		}
		if op == api.TryUpgrade && x.hold != api.HoldRead || op == api.Downgrade && x.hold != api.HoldWrite {
			op = api.Rest
		}
		if op != api.Rest {
			x.frame, x.on = api.Frame{Op: op}, true
		} else {
			x.at++
		}
	}
	return x.on
}

// step answers the scene behind a step of the task; false: it is through with its program.
func (s *story) step(x scene, task int) (scene, bool) {
	n := len(s.programs)
	actor := &x.tasks[task]
	if !s.next(actor, s.programs[task]) {
		return x, false
	}
	m, _ := cells.From(x.words[:8+4*n]...)
	r := line.Run{Mem: m, Map: place.Map{N: n}, Mode: s.mode, Task: task, Frame: actor.frame}
	over := r.Step(tf.Lines)
	copy(x.words[:], m.All())
	for _, n := range r.Notes {
		s.noted(&x, task, n)
	}
	actor.frame = r.Frame
	if over {
		s.ended(actor)
	}
	return x, true
}

// ended lets the task be with no operation, and fails the test, if its result isn't what its hold tells.
func (s *story) ended(x *actor) {
	want := map[int]int{api.TryRLock: api.HoldRead, api.TryLock: api.HoldWrite, api.TryUpgrade: api.HoldWrite}[x.frame.Op]
	if got := x.frame.Ret == yes; got != (want == api.HoldNone || x.hold == want) || x.hold < 0 {
		s.t.Fatalf("%v: %+v ends with the hold %d", s.programs, x.frame, x.hold)
	}
	x.frame, x.on = api.Frame{}, false
	x.at++
}

// noted keeps what the note tells, and fails the test, if who is admitted isn't the first that was registered, or one holds write, and another one anything.
func (s *story) noted(x *scene, task int, n api.Note) {
	hold := &x.tasks[task].hold
	switch n.What {
	case api.NReg:
		for i := range x.queue {
			if x.queue[i] == 0 {
				x.queue[i] = task + 1
				break
			}
		}
		*hold = -n.Arg
	case api.NAdmit:
		if x.queue[0] != task+1 {
			s.t.Fatalf("%v: the task %d is admitted ahead of %v", s.programs, task, x.queue)
		}
		copy(x.queue[:], x.queue[1:])
		x.queue[most-1] = 0
		*hold = -*hold
	case api.NRelease, api.NLeave:
		*hold = api.HoldNone
	case api.NUp:
		*hold = api.HoldWrite
	case api.NDown:
		*hold = api.HoldRead
	}
	for i, a := range x.tasks {
		for j, b := range x.tasks {
			if i != j && a.hold == api.HoldWrite && b.hold > api.HoldNone {
				s.t.Fatalf("%v: the tasks %d and %d hold %d and %d", s.programs, i, j, a.hold, b.hold)
			}
		}
	}
}

// all looks at each scene to which any order of the tasks' steps leads, once.
func (s *story) all(base uint32) {
	s.t.Helper()
	first := scene{}
	l, _ := place.First(api.TaskFair, len(s.programs), base)
	copy(first.words[:], l)
	seen, open := map[scene]bool{first: true}, []scene{first}
	for len(open) > 0 {
		x := open[len(open)-1]
		open = open[:len(open)-1]
		moved, through := false, true
		for task := range s.programs {
			y, there := s.step(x, task)
			through = through && !there
			moved = moved || y != x
			if there && !seen[y] {
				seen[y] = true
				open = append(open, y)
			}
		}
		if !through && !moved {
			s.t.Fatalf("%v in the mode %d: nobody gets on: %+v", s.programs, s.mode, x)
		}
		if through {
			s.ends(x)
		}
	}
}

// ends fails the test, unless the lock is as at first, but for its tickets, and those permits that nobody took.
func (s *story) ends(x scene) {
	s.t.Helper()
	n := len(s.programs)
	if x.words[0] != x.words[1] || x.words[0] != x.words[2] {
		s.t.Fatalf("%v: the cells are %x", s.programs, x.words)
	}
	for c, v := range x.words {
		if v != 0 && c >= 3 && (c < 8+3*n || c >= 8+4*n || v != 1) {
			s.t.Fatalf("%v: the cells are %x", s.programs, x.words)
		}
	}
}

// programs are what a task may do.
func programs() [][]int {
	return [][]int{
		{api.RLock, leaves},
		{api.Lock, leaves},
		{api.TryRLock, leaves},
		{api.TryLock, leaves},
		{api.RLock, api.TryUpgrade, leaves},
		{api.Lock, api.Downgrade, leaves},
		{api.TryLock, api.Downgrade, api.TryUpgrade, leaves},
		{api.RLock, leaves, api.Lock, leaves},
	}
}

// P10.2: of two tasks, whatever order their steps come in: while one holds write no other one holds anything, they are admitted as they came, nobody is left waiting, and all is alike in the end.
func TestOrdersOfTwo(t *testing.T) {
	for _, a := range programs() {
		for _, b := range programs() {
			for _, mode := range modes() {
				s := &story{t: t, mode: mode, programs: [][]int{a, b}}
				for _, base := range []uint32{0, top} {
					s.all(base)
				}
			}
		}
	}
}

// P10.2: likewise of three tasks; each one that is parked, and waits, is woken.
func TestOrdersOfThree(t *testing.T) {
	l := programs()[:6]
	for i, a := range l {
		for j, b := range l[i:] {
			for _, c := range l[i+j:] { // the tasks are alike but for their numbers
				for _, mode := range modes() {
					s := &story{t: t, mode: mode, programs: [][]int{a, b, c}}
					s.all(half - 1)
				}
			}
		}
	}
}
