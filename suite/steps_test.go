package suite_test

import (
	"slices"
	"strings"
	"testing"

	"stileman/acc"
	"stileman/api"
	"stileman/cells"
	"stileman/line"
	"stileman/note"
	"stileman/place"
)

// done is an operation that the task 1 of two did, with its steps: each one's access and notes.
type done struct {
	op    int
	steps []string
}

// does begins the operations one behind the other, by the kind's lines, of a lock from the base 5 in the mode Spin, and fails the test, unless their steps are those told, and each one ends with true.
func does(t *testing.T, kind int, l []done) {
	t.Helper()
	f := linesOf(t, kind)
	words, _ := place.First(kind, 2, 5)
	m, _ := cells.From(words...)
	for i, x := range l {
		r := line.Run{Mem: m, Map: place.Map{N: 2}, Mode: api.Spin, Task: 1, Frame: api.Frame{Op: x.op}}
		var steps []string
		for over := false; !over && len(steps) < 20; {
			over = r.Step(f)
			steps = append(steps, strings.Join(append([]string{acc.Text(r.Access)}, note.Rows(r.Notes...)...), ", "))
		}
		if r.Frame.Ret != api.RetTrue || !slices.Equal(steps, x.steps) {
			t.Errorf("the kind %d, the operation %d, begun as number %d: %q, with %d, want %q", kind, x.op, i, steps, r.Frame.Ret, x.steps)
		}
	}
}

// P17.1: the lines of the kind 1 are those of the task-fair lock: each operation, step by step.
func TestStepsOfTaskFair(t *testing.T) {
	does(t, 1, []done{
		{api.RLock, []string{
			"add 0 00000001 was 00000005, 1 reg read",
			"load 1 was 00000005",
			"add 1 00000001 was 00000005, 1 admit",
		}},
		{api.RUnlock, []string{
			"add 2 00000001 was 00000005, 1 release",
		}},
		{api.Lock, []string{
			"add 0 00000001 was 00000006, 1 reg write",
			"load 2 was 00000006, 1 admit",
		}},
		{api.Downgrade, []string{
			"add 1 00000001 was 00000006, 1 down",
		}},
		{api.TryUpgrade, []string{
			"load 0 was 00000007",
			"load 2 was 00000006",
			"cas 0 00000007 00000008 was 00000007, 1 up",
			"add 2 00000001 was 00000006",
		}},
		{api.Unlock, []string{
			"add 1 00000001 was 00000007, 1 leave",
			"add 2 00000001 was 00000007, 1 pass",
		}},
		{api.TryRLock, []string{
			"load 0 was 00000008",
			"load 1 was 00000008",
			"cas 0 00000008 00000009 was 00000008, 1 reg read",
			"add 1 00000001 was 00000008, 1 admit",
		}},
		{api.RUnlock, []string{
			"add 2 00000001 was 00000008, 1 release",
		}},
		{api.TryLock, []string{
			"load 0 was 00000009",
			"load 2 was 00000009",
			"cas 0 00000009 0000000a was 00000009, 1 reg write, 1 admit",
		}},
		{api.Unlock, []string{
			"add 1 00000001 was 00000009, 1 leave",
			"add 2 00000001 was 00000009, 1 pass",
		}},
	})
}

// P17.1: the lines of the kind 2 are those of the phase-fair lock: each operation, step by step.
func TestStepsOfPhaseFair(t *testing.T) {
	does(t, 2, []done{
		{api.RLock, []string{
			"add 0 00000100 was 00000500, 1 reg read, 1 admit",
		}},
		{api.RUnlock, []string{
			"add 1 00000100 was 00000500, 1 release",
		}},
		{api.Lock, []string{
			"add 2 00000001 was 00000005, 1 reg write",
			"load 3 was 00000005",
			"load 4 was 00000005",
			"add 0 00000003 was 00000600, 1 present",
			"load 1 was 00000600, 1 admit",
		}},
		{api.Downgrade, []string{
			"load 4 was 00000005",
			"add 0 000000fd was 00000603, 1 down",
			"store 4 00000006 was 00000005",
			"add 3 00000001 was 00000005, 1 pass",
		}},
		{api.TryUpgrade, []string{
			"load 2 was 00000006",
			"load 3 was 00000006",
			"cas 2 00000006 00000007 was 00000006, 1 reg write",
			"load 0 was 00000700",
			"load 1 was 00000600",
			"load 4 was 00000006",
			"add 0 00000002 was 00000700, 1 present",
			"load 1 was 00000600, 1 up",
			"add 1 00000100 was 00000600",
		}},
		{api.Unlock, []string{
			"load 4 was 00000006",
			"add 0 fffffffe was 00000702, 1 leave",
			"store 4 00000007 was 00000006",
			"add 3 00000001 was 00000006, 1 pass",
		}},
		{api.TryRLock, []string{
			"load 0 was 00000700",
			"cas 0 00000700 00000800 was 00000700, 1 reg read, 1 admit",
		}},
		{api.RUnlock, []string{
			"add 1 00000100 was 00000700, 1 release",
		}},
		{api.TryLock, []string{
			"load 2 was 00000007",
			"load 3 was 00000007",
			"cas 2 00000007 00000008 was 00000007, 1 reg write",
			"load 0 was 00000800",
			"load 1 was 00000800",
			"load 4 was 00000007",
			"add 0 00000003 was 00000800, 1 present",
			"load 1 was 00000800, 1 admit",
		}},
		{api.Unlock, []string{
			"load 4 was 00000007",
			"add 0 fffffffd was 00000803, 1 leave",
			"store 4 00000008 was 00000007",
			"add 3 00000001 was 00000007, 1 pass",
		}},
	})
}

// P17.1: the lines of the kind 3 are those of the phase-fair lock whose writers stand in a queue: each operation, step by step.
func TestStepsOfPhaseQueue(t *testing.T) {
	does(t, 3, []done{
		{api.RLock, []string{
			"add 0 00000100 was 00000500, 1 reg read, 1 admit",
		}},
		{api.RUnlock, []string{
			"add 1 00000100 was 00000500, 1 release",
		}},
		{api.Lock, []string{
			"store 9 00000000 was 00000000",
			"store 11 00000001 was 00000000",
			"swap 2 00000002 was 00000000, 1 reg write",
			"load 3 was 00000005",
			"add 0 00000003 was 00000600, 1 present",
			"load 1 was 00000600, 1 admit",
		}},
		{api.Downgrade, []string{
			"load 3 was 00000005",
			"add 0 000000fd was 00000603, 1 down",
			"store 3 00000006 was 00000005",
			"load 9 was 00000000",
			"cas 2 00000002 00000000 was 00000002, 1 pass",
		}},
		{api.TryUpgrade, []string{
			"store 9 00000000 was 00000000",
			"cas 2 00000000 00000002 was 00000000, 1 reg write",
			"load 0 was 00000700",
			"load 1 was 00000600",
			"load 3 was 00000006",
			"add 0 00000002 was 00000700, 1 present",
			"load 1 was 00000600, 1 up",
			"add 1 00000100 was 00000600",
		}},
		{api.Unlock, []string{
			"load 3 was 00000006",
			"add 0 fffffffe was 00000702, 1 leave",
			"store 3 00000007 was 00000006",
			"load 9 was 00000000",
			"cas 2 00000002 00000000 was 00000002, 1 pass",
		}},
		{api.TryRLock, []string{
			"load 0 was 00000700",
			"cas 0 00000700 00000800 was 00000700, 1 reg read, 1 admit",
		}},
		{api.RUnlock, []string{
			"add 1 00000100 was 00000700, 1 release",
		}},
		{api.TryLock, []string{
			"store 9 00000000 was 00000000",
			"cas 2 00000000 00000002 was 00000000, 1 reg write",
			"load 0 was 00000800",
			"load 1 was 00000800",
			"load 3 was 00000007",
			"add 0 00000003 was 00000800, 1 present",
			"load 1 was 00000800, 1 admit",
		}},
		{api.Unlock, []string{
			"load 3 was 00000007",
			"add 0 fffffffd was 00000803, 1 leave",
			"store 3 00000008 was 00000007",
			"load 9 was 00000000",
			"cas 2 00000002 00000000 was 00000002, 1 pass",
		}},
	})
}

// P17.1: the lines of the kind 4 are those of the fair queue lock: each operation, step by step.
func TestStepsOfFairQueue(t *testing.T) {
	does(t, 4, []done{
		{api.RLock, []string{
			"store 9 00000000 was 00000000",
			"store 11 00000001 was 00000000",
			"swap 0 00000002 was 00000000, 1 reg read",
			"add 1 00000001 was 00000000",
			"load 9 was 00000000",
			"cas 0 00000002 00000000 was 00000002, 1 admit",
		}},
		{api.RUnlock, []string{
			"add 1 ffffffff was 00000001, 1 release",
		}},
		{api.Lock, []string{
			"store 9 00000000 was 00000000",
			"store 11 00000001 was 00000001",
			"swap 0 00000002 was 00000000, 1 reg write",
			"load 1 was 00000000, 1 admit",
		}},
		{api.Downgrade, []string{
			"add 1 00000001 was 00000000",
			"load 9 was 00000000",
			"cas 0 00000002 00000000 was 00000002, 1 down",
		}},
		{api.TryUpgrade, []string{
			"store 9 00000000 was 00000000",
			"cas 0 00000000 00000002 was 00000000, 1 reg write",
			"load 1 was 00000001",
			"add 1 ffffffff was 00000001, 1 up",
		}},
		{api.Unlock, []string{
			"load 9 was 00000000",
			"cas 0 00000002 00000000 was 00000002, 1 leave, 1 pass",
		}},
		{api.TryRLock, []string{
			"store 9 00000000 was 00000000",
			"cas 0 00000000 00000002 was 00000000, 1 reg read",
			"add 1 00000001 was 00000000",
			"load 9 was 00000000",
			"cas 0 00000002 00000000 was 00000002, 1 admit",
		}},
		{api.RUnlock, []string{
			"add 1 ffffffff was 00000001, 1 release",
		}},
		{api.TryLock, []string{
			"store 9 00000000 was 00000000",
			"cas 0 00000000 00000002 was 00000000, 1 reg write",
			"load 1 was 00000000, 1 admit",
		}},
		{api.Unlock, []string{
			"load 9 was 00000000",
			"cas 0 00000002 00000000 was 00000002, 1 leave, 1 pass",
		}},
	})
}

// P17.1: the lines of the kind 5 are those of the lock in which readers go first: each operation, step by step.
func TestStepsOfReadersFirst(t *testing.T) {
	does(t, 5, []done{
		{api.RLock, []string{
			"add 0 00000001 was 00000000, 1 reg read, 1 admit",
		}},
		{api.RUnlock, []string{
			"add 0 ffffffff was 00000001, 1 release",
		}},
		{api.Lock, []string{
			"load 0 was 00000000, 1 reg write",
			"cas 0 00000000 00010000 was 00000000, 1 admit",
		}},
		{api.Downgrade, []string{
			"add 0 ffff0001 was 00010000, 1 down",
		}},
		{api.TryUpgrade, []string{
			"load 0 was 00000001",
			"cas 0 00000001 00010000 was 00000001, 1 up",
		}},
		{api.Unlock, []string{
			"add 0 ffff0000 was 00010000, 1 leave, 1 pass",
		}},
		{api.TryRLock, []string{
			"load 0 was 00000000",
			"cas 0 00000000 00000001 was 00000000, 1 reg read, 1 admit",
		}},
		{api.RUnlock, []string{
			"add 0 ffffffff was 00000001, 1 release",
		}},
		{api.TryLock, []string{
			"load 0 was 00000000",
			"cas 0 00000000 00010000 was 00000000, 1 reg write, 1 admit",
		}},
		{api.Unlock, []string{
			"add 0 ffff0000 was 00010000, 1 leave, 1 pass",
		}},
	})
}

// P17.1: the lines of the kind 6 are those of the lock in which writers go first: each operation, step by step.
func TestStepsOfWritersFirst(t *testing.T) {
	does(t, 6, []done{
		{api.RLock, []string{
			"load 0 was 00050500, 1 reg read",
			"cas 0 00050500 00050501 was 00050500, 1 admit",
		}},
		{api.RUnlock, []string{
			"add 0 ffffffff was 00050501, 1 release",
		}},
		{api.Lock, []string{
			"add 0 00010000 was 00050500, 1 reg write",
			"load 0 was 00060500, 1 admit",
		}},
		{api.Downgrade, []string{
			"load 0 was 00060500",
			"add 0 00000101 was 00060500, 1 down",
		}},
		{api.TryUpgrade, []string{
			"load 0 was 00060601",
			"cas 0 00060601 00070600 was 00060601, 1 up",
		}},
		{api.Unlock, []string{
			"load 0 was 00070600",
			"add 0 00000100 was 00070600, 1 leave, 1 pass",
		}},
		{api.TryRLock, []string{
			"load 0 was 00070700",
			"cas 0 00070700 00070701 was 00070700, 1 reg read, 1 admit",
		}},
		{api.RUnlock, []string{
			"add 0 ffffffff was 00070701, 1 release",
		}},
		{api.TryLock, []string{
			"load 0 was 00070700",
			"cas 0 00070700 00080700 was 00070700, 1 reg write, 1 admit",
		}},
		{api.Unlock, []string{
			"load 0 was 00080700",
			"add 0 00000100 was 00080700, 1 leave, 1 pass",
		}},
	})
}
