package world_test

import (
	"math"
	"testing"

	"stileman/api"
	"stileman/world"
)

// unmade are worlds that aren't there, or that New hasn't made.
func unmade() []*world.World {
	failed, _ := world.New(0, api.Spin, 1, 0)
	return []*world.World{nil, failed, {}, new(world.World)}
}

// P18.2: of a nil *World, and of one that New hasn't made, which has no tasks: zero values, and nothing is done.
func TestUnmade(t *testing.T) {
	tasks := []int{0, 1, -1, 63, 64, math.MinInt, math.MaxInt}
	for i, w := range unmade() {
		for range 2 {
			for _, task := range tasks {
				for op := -1; op <= 9; op++ {
					if e := w.Pick(api.Pick{Task: task, Op: op}); e.Ran || e.Access != (api.Access{}) || len(e.Notes) > 0 {
						t.Errorf("number %d, the pick %d %d: %+v", i, task, op, e)
					}
				}
				if w.Hold(task) != none || w.Busy(task) != api.Rest || w.Stuck(task) {
					t.Errorf("number %d, the task %d: %d, %d, %v", i, task, w.Hold(task), w.Busy(task), w.Stuck(task))
				}
			}
			if l := w.Run(api.Pick{Op: api.Lock}, api.Pick{}, api.Pick{Task: 1, Op: api.RLock}); len(l) > 0 {
				t.Errorf("number %d: %+v", i, l)
			}
			if l := w.Run(); len(l) > 0 {
				t.Errorf("number %d: %+v", i, l)
			}
			if s := w.State(); !same(s, api.State{}) || w.N() != 0 {
				t.Errorf("number %d: %+v, %d", i, s, w.N())
			}
		}
	}
}
