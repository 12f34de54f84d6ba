package suite_test

import (
	"strings"
	"testing"

	"stileman/api"
	"stileman/suite"
)

// named are the kinds' names.
func named() map[int]string {
	return map[int]string{
		api.TaskFair:     "task-fair",
		api.PhaseFair:    "phase-fair",
		api.PhaseQueue:   "phase-queue",
		api.FairQueue:    "fair-queue",
		api.ReadersFirst: "readers-first",
		api.WritersFirst: "writers-first",
	}
}

// P17.1: each kind's name, and each name's kind, by their numbers.
func TestNames(t *testing.T) {
	for kind, name := range []string{1: "task-fair", 2: "phase-fair", 3: "phase-queue", 4: "fair-queue", 5: "readers-first", 6: "writers-first"} {
		if kind == 0 {
			continue
		}
		if got := suite.Name(kind); got != name || named()[kind] != name {
			t.Errorf("the name of %d is %q", kind, got)
		}
		if got, ok := suite.Kind(name); got != kind || !ok {
			t.Errorf("the kind of %q is %d, %v", name, got, ok)
		}
	}
}

// P17.1: a number that is no kind has an empty name, from 0 and 7 to the least and the greatest int.
func TestNoName(t *testing.T) {
	for _, kind := range append(beside(1, 6), 0, 7, -1, 8) {
		if got := suite.Name(kind); got != "" {
			t.Errorf("the name of %d is %q", kind, got)
		}
	}
}

// noKind fails the test, unless no kind has that name, but for one of those that are.
func noKind(t *testing.T, name string) {
	t.Helper()
	for _, x := range named() {
		if x == name {
			return
		}
	}
	if got, ok := suite.Kind(name); got != 0 || ok {
		t.Errorf("the kind of %q is %d, %v", name, got, ok)
	}
}

// P17.1: the empty name is no kind's, though numbers that are none have it.
func TestEmptyName(t *testing.T) {
	if got, ok := suite.Kind(""); got != 0 || ok {
		t.Errorf("the kind of an empty name is %d, %v", got, ok)
	}
	if got, ok := suite.Kind(suite.Name(0)); got != 0 || ok {
		t.Errorf("the kind of the name of 0 is %d, %v", got, ok)
	}
}

// P17.1: a name with a byte more, at any place, is none.
func TestByteMore(t *testing.T) {
	for _, name := range named() {
		for i := range len(name) + 1 {
			for b := range 256 {
				noKind(t, name[:i]+string([]byte{byte(b)})+name[i:])
			}
		}
	}
}

// P17.1: a name with a byte less, at any place, and each piece of a name, is none.
func TestByteLess(t *testing.T) {
	for _, name := range named() {
		for i := range len(name) {
			noKind(t, name[:i]+name[i+1:])
			noKind(t, name[:i])
			noKind(t, name[i+1:])
			for k := i; k < len(name); k++ {
				if k-i+1 < len(name) {
					noKind(t, name[i:k+1])
				}
			}
		}
	}
}

// P17.1: a name with another byte, at any place, is none: also with a capital letter.
func TestOtherByte(t *testing.T) {
	for _, name := range named() {
		for i := range len(name) {
			for b := range 256 {
				if byte(b) != name[i] {
					noKind(t, name[:i]+string([]byte{byte(b)})+name[i+1:])
				}
			}
		}
		noKind(t, strings.ToUpper(name))
		noKind(t, strings.ToUpper(name[:1])+name[1:])
		for k := range len(name) - 1 {
			noKind(t, name[:k]+name[k+1:k+2]+name[k:k+1]+name[k+2:])
		}
	}
}

// P17.1: texts that are no names: numbers, other spellings, several names, halves of different names, and long ones.
func TestNoNames(t *testing.T) {
	for _, x := range []string{
		"0", "1", "6", "7", "-", "--", " ", "\x00", "\xff", "none", "Rest", "rlock", "spin", "parked",
		"TaskFair", "PhaseFair", "PhaseQueue", "FairQueue", "ReadersFirst", "WritersFirst",
		"tf", "pf", "pq", "fq", "rf", "wf", "mutex", "task", "phase", "fair", "queue", "readers", "writers", "first",
		"task fair", "task_fair", "taskfair", "task\u2010fair", "fair-task", "queue-fair", "queue-phase", "first-readers", "reader-first", "writer-first",
		"task-fair\n", "\ttask-fair", "task-fair task-fair", "task-fair,phase-fair", "task-fairphase-fair",
	} {
		noKind(t, x)
	}
	for _, one := range named() {
		for _, two := range named() {
			a, _, _ := strings.Cut(one, "-")
			_, b, _ := strings.Cut(two, "-")
			noKind(t, a+"-"+b)
			noKind(t, one+two)
			noKind(t, one+" "+two)
		}
		noKind(t, one+strings.Repeat("x", 1<<20))
		noKind(t, strings.Repeat(one, 1<<16))
		noKind(t, one+"\x00")
	}
}

// R6: a name is the same one each time, whatever was asked between.
func TestNamesAgain(t *testing.T) {
	for range 3 {
		for kind, name := range named() {
			suite.Name(kind - 1)
			suite.Kind("none")
			got, ok := suite.Kind(suite.Name(kind))
			if suite.Name(kind) != name || got != kind || !ok {
				t.Errorf("%d: %q, %d, %v", kind, suite.Name(kind), got, ok)
			}
		}
	}
}
