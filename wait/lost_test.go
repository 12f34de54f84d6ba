package wait_test

import (
	"testing"

	"stileman/api"
	"stileman/cells"
	"stileman/place"
	"stileman/wait"
)

// most is how many cells a lock has at most.
const most = 8 + 4*api.MaxTasks

// rouser is who stores in the cell, looks at the watch then, and gives a permit, if it names the cell: the three steps of a wake-up, told apart.
type rouser struct {
	at    int // how many of its steps it has done
	named bool
}

// scene is how far all are: the task that waits, and those that rouse it.
type scene struct {
	words   [most]uint32
	round   int // how many times the task has waited to the end
	stage   int
	rousers [2]rouser
}

// story is what the task waits for in its rounds, and what is stored, one behind the other.
type story struct {
	n, task, mode, c int
	rounds           int
	is               func(round int, v uint32) bool
	stores           []uint32
	early            bool // whether the watch is looked at ahead of the store, as nobody should
}

// size is how many cells the story's lock has.
func (s *story) size() int { return 8 + 4*s.n }

// memory makes a memory of the scene's words.
func (s *story) memory(x scene) *cells.Memory {
	m, _ := cells.From(x.words[:s.size()]...)
	return m
}

// wait does a step of the task that waits.
func (s *story) wait(t *testing.T, x scene) scene {
	t.Helper()
	m := s.memory(x)
	next, _, _, done := wait.Step(m, place.Map{N: s.n}, s.mode, s.task, api.Wait{Stage: x.stage}, s.c, func(v uint32) bool { return s.is(x.round, v) })
	copy(x.words[:], m.All())
	x.stage = next.Stage
	if done {
		if x.stage != 0 {
			t.Fatalf("done, at the stage %d", x.stage)
		}
		x.round++
	}
	return x
}

// over tells whether the rouser has done its three steps.
func (r rouser) over() bool { return r.at == 3 }

// rouse does a step of a rouser; false: it can't do one, for it is over, or the one ahead of it hasn't stored yet.
func (s *story) rouse(x scene, i int) (scene, bool) {
	r := &x.rousers[i]
	if r.over() || i > 0 && x.rousers[i-1].at == 0 {
		return x, false
	}
	storeAt, lookAt := 0, 1
	if s.early {
		storeAt, lookAt = 1, 0
	}
	switch r.at {
	case storeAt:
		x.words[s.c] = s.stores[i]
	case lookAt:
		r.named = x.words[watch(s.n, s.task)] == uint32(s.c)+1
	default:
		if r.named {
			x.words[permit(s.n, s.task)] = 1
		}
	}
	r.at++
	return x, true
}

// stuck tells whether the task of the scene is stuck.
func (s *story) stuck(x scene) bool {
	return x.round < s.rounds && wait.Stuck(s.memory(x), place.Map{N: s.n}, s.mode, s.task, api.Wait{Stage: x.stage})
}

// roused tells whether one that stored what the task waits for is over.
func (s *story) roused(x scene) bool {
	for i, v := range s.stores {
		if x.rousers[i].over() && s.is(x.round, v) {
			return true
		}
	}
	return false
}

// all answers all scenes that any order of the steps of all leads to, each one once.
func (s *story) all(t *testing.T, first scene) []scene {
	t.Helper()
	known := map[scene]bool{first: true}
	scenes := []scene{first}
	reach := func(x scene) {
		if !known[x] {
			known[x] = true
			scenes = append(scenes, x)
		}
	}
	for i := 0; i < len(scenes); i++ {
		x := scenes[i]
		if x.round < s.rounds {
			reach(s.wait(t, x))
		}
		for r := range s.stores {
			if next, ok := s.rouse(x, r); ok {
				reach(next)
			}
		}
	}
	return scenes
}

// ends tells whether the task waits to the end of its round, by so many steps of its own, none of which is stuck.
func (s *story) ends(t *testing.T, x scene, steps int) bool {
	t.Helper()
	round := x.round
	for ; x.round == round && steps > 0; steps-- {
		if s.stuck(x) {
			return false
		}
		x = s.wait(t, x)
	}
	return x.round > round
}

// lost counts the scenes in which a wake-up is lost, and those in which the task is stuck, and hasn't been roused yet.
func (s *story) lost(t *testing.T, first scene) (lost, stuck int) {
	t.Helper()
	was := first.words[watch(s.n, s.task)]
	for _, x := range s.all(t, first) {
		switch {
		case x.round == s.rounds:
			// A wait that is done at its first look leaves the watch as it was.
			if w := x.words[watch(s.n, s.task)]; w != 0 && w != was {
				t.Errorf("%+v: the wait is done, and the watch is %#x", *s, w)
			}
		case !s.roused(x):
			if s.stuck(x) {
				stuck++
			}
		case s.stuck(x) || !s.ends(t, x, 6):
			lost++
		}
	}
	return lost, stuck
}

// firsts are scenes to begin with: what the cell holds, and what a watch and a permit of earlier waits may be.
func (s *story) firsts(v uint32) []scene {
	var l []scene
	for _, w := range []uint32{0, uint32(s.c) + 1, uint32(s.c) + 2, top} {
		for _, p := range []uint32{0, 1, 9, top} {
			x := scene{}
			x.words[watch(s.n, s.task)], x.words[permit(s.n, s.task)] = w, p
			x.words[s.c] = v
			l = append(l, x)
		}
	}
	return l
}

// stories calls with each lock, mode and cell of some, with the edges.
func stories(do func(s story)) {
	for _, mode := range []int{api.Spin, api.Parked} {
		for _, x := range []struct{ n, task int }{{1, 0}, {2, 0}, {2, 1}, {64, 0}, {64, 63}} {
			for _, c := range []int{0, 7, 8, 8 + 2*x.n - 1} {
				do(story{n: x.n, task: x.task, mode: mode, c: c})
			}
		}
	}
}

// check fails the test, if a wake-up of the story is lost, or if the task can't be stuck where it must be.
func (s *story) check(t *testing.T, first uint32) {
	t.Helper()
	for _, x := range s.firsts(first) {
		lost, stuck := s.lost(t, x)
		if lost != 0 {
			t.Errorf("%+v: %d wake-ups are lost", *s, lost)
		}
		// Were it never stuck, nothing would be shown.
		if may := s.mode == api.Parked && !s.is(0, first); may != (stuck > 0) {
			t.Errorf("%+v: it is stuck in %d scenes", *s, stuck)
		}
	}
}

// P7.3: what is waited for is stored once, be that a 0, or another word; all orders of all steps.
func TestNoWakeUpIsLost(t *testing.T) {
	stories(func(s story) {
		s.rounds = 1
		s.is = func(_ int, v uint32) bool { return v == 0 }
		s.stores = []uint32{0}
		s.check(t, 5)
		s.check(t, top)
		s.check(t, 0)
		s.is = func(_ int, v uint32) bool { return v != 0 }
		for _, v := range []uint32{1, 7, top} {
			s.stores = []uint32{v}
			s.check(t, 0)
			s.check(t, 2)
		}
	})
}

// P7.3: another one stores a word ahead of that, for which nobody waits, and gives a permit for nothing.
func TestWokenForNothing(t *testing.T) {
	stories(func(s story) {
		s.rounds = 1
		s.is = func(_ int, v uint32) bool { return v == 7 }
		s.stores = []uint32{6, 7}
		s.check(t, 0)
		s.is = func(_ int, v uint32) bool { return v == 0 }
		s.stores = []uint32{top, 0}
		s.check(t, 1)
	})
}

// P7.3: the task waits twice, and each of two stores ends one wait, or the last one both; a late permit of the first wait wakes the second one for nothing.
func TestWaitsTwice(t *testing.T) {
	stories(func(s story) {
		s.rounds = 2
		s.is = func(round int, v uint32) bool { return v > uint32(round) }
		s.stores = []uint32{1, 2}
		s.check(t, 0)
	})
}

// P7.3 is told of those that store first: who looks at the watch ahead of that loses wake-ups, which shows that these tests find lost ones.
func TestLostIfLookedAtEarly(t *testing.T) {
	stories(func(s story) {
		s.rounds, s.early = 1, true
		s.is = func(_ int, v uint32) bool { return v == 7 }
		s.stores = []uint32{7}
		x := scene{}
		lost, _ := s.lost(t, x)
		if (s.mode == api.Parked) != (lost > 0) {
			t.Errorf("%+v: %d wake-ups are lost", s, lost)
		}
	})
}
