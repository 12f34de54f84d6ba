package suite_test

import (
	"math"
	"testing"

	"stileman/api"
	"stileman/suite"
)

// P17.2: which operation may be begun by one that holds nothing, read and write.
func TestMay(t *testing.T) {
	for op, want := range [][3]bool{
		api.Rest:       {false, false, false},
		api.RLock:      {true, false, false},
		api.RUnlock:    {false, true, false},
		api.Lock:       {true, false, false},
		api.Unlock:     {false, false, true},
		api.TryRLock:   {true, false, false},
		api.TryLock:    {true, false, false},
		api.TryUpgrade: {false, true, false},
		api.Downgrade:  {false, false, true},
		9:              {false, false, false},
	} {
		for hold := range want {
			if got := suite.May(op, hold); got != want[hold] {
				t.Errorf("the operation %d, of one that holds %d: %v", op, hold, got)
			}
		}
	}
}

// P17.2: what a task that held nothing, read and write holds from an operation's beginning on.
func TestAt(t *testing.T) {
	for op, want := range [][3]int{
		api.Rest:       {none, read, write},
		api.RLock:      {none, read, write},
		api.RUnlock:    {none, none, none},
		api.Lock:       {none, read, write},
		api.Unlock:     {none, none, none},
		api.TryRLock:   {none, read, write},
		api.TryLock:    {none, read, write},
		api.TryUpgrade: {none, read, write},
		api.Downgrade:  {read, read, read},
		9:              {none, read, write},
	} {
		for hold := range want {
			if got := suite.At(op, hold); got != want[hold] {
				t.Errorf("the operation %d, of one that held %d: %d", op, hold, got)
			}
		}
	}
}

// P17.2: what a task that held nothing, read and write holds behind an operation that ended with true.
func TestBehindTrue(t *testing.T) {
	for op, want := range [][3]int{
		api.Rest:       {none, read, write},
		api.RLock:      {read, read, read},
		api.RUnlock:    {none, read, write},
		api.Lock:       {write, write, write},
		api.Unlock:     {none, read, write},
		api.TryRLock:   {read, read, read},
		api.TryLock:    {write, write, write},
		api.TryUpgrade: {write, write, write},
		api.Downgrade:  {none, read, write},
		9:              {none, read, write},
	} {
		for hold := range want {
			if got := suite.Behind(op, api.RetTrue, hold); got != want[hold] {
				t.Errorf("the operation %d, of one that held %d: %d", op, hold, got)
			}
		}
	}
}

// P17.2: behind an operation that ended with false or misuse, that hasn't ended, or that ended with what is no result, a task holds what it held.
func TestBehindOthers(t *testing.T) {
	rets := append(beside(0, 3), api.RetNone, api.RetFalse, api.RetMisuse, 4, -1)
	for _, ret := range rets {
		for op := range 10 {
			for _, hold := range append(beside(0, 2), none, read, write) {
				if got := suite.Behind(op, ret, hold); got != hold {
					t.Errorf("the operation %d with %d, of one that held %d: %d", op, ret, hold, got)
				}
			}
		}
	}
}

// P17.2: the chapter's example, and those of the other tries that are refused.
func TestRefusedTries(t *testing.T) {
	for _, x := range [][2]int{{api.TryUpgrade, read}, {api.TryLock, none}, {api.TryRLock, none}} {
		if got := suite.Behind(x[0], api.RetFalse, x[1]); got != x[1] {
			t.Errorf("the operation %d, of one that held %d: %d", x[0], x[1], got)
		}
	}
}

// P17.2: each operation's class.
func TestClass(t *testing.T) {
	for op, want := range []int{
		api.Rest:       none,
		api.RLock:      read,
		api.RUnlock:    read,
		api.Lock:       write,
		api.Unlock:     write,
		api.TryRLock:   read,
		api.TryLock:    write,
		api.TryUpgrade: write,
		api.Downgrade:  write,
		9:              none,
	} {
		if got := suite.Class(op); got != want {
			t.Errorf("the operation %d: %d", op, got)
		}
	}
}

// P17.2: an operation that is none may be begun by nobody, changes nothing of what a task holds, and has no class.
func TestNoOperation(t *testing.T) {
	for _, op := range append(beside(1, 8), 0, 9, -1) {
		if got := suite.Class(op); got != none {
			t.Errorf("the class of %d is %d", op, got)
		}
		for _, hold := range append(beside(0, 2), none, read, write) {
			if suite.May(op, hold) {
				t.Errorf("one that holds %d may begin %d", hold, op)
			}
			if got := suite.At(op, hold); got != hold {
				t.Errorf("the operation %d, of one that held %d: %d", op, hold, got)
			}
			for _, ret := range []int{api.RetNone, api.RetFalse, api.RetTrue, api.RetMisuse, 4, math.MinInt, math.MaxInt} {
				if got := suite.Behind(op, ret, hold); got != hold {
					t.Errorf("the operation %d with %d, of one that held %d: %d", op, ret, hold, got)
				}
			}
		}
	}
}

// P17.2: a holding that is none: no operation may be begun by that; at the beginning and behind the end an operation tells what a task holds, or it is what it was.
func TestNoHolding(t *testing.T) {
	for _, hold := range append(beside(0, 2), -1, 3) {
		for op, want := range [][2]int{ // at its beginning, and behind its end with true
			api.Rest:       {hold, hold},
			api.RLock:      {hold, read},
			api.RUnlock:    {none, hold},
			api.Lock:       {hold, write},
			api.Unlock:     {none, hold},
			api.TryRLock:   {hold, read},
			api.TryLock:    {hold, write},
			api.TryUpgrade: {hold, write},
			api.Downgrade:  {read, hold},
			9:              {hold, hold},
		} {
			if suite.May(op, hold) {
				t.Errorf("one that holds %d may begin %d", hold, op)
			}
			if got := suite.At(op, hold); got != want[0] {
				t.Errorf("the operation %d, of one that held %d: %d", op, hold, got)
			}
			if got := suite.Behind(op, api.RetTrue, hold); got != want[1] {
				t.Errorf("behind the operation %d, of one that held %d: %d", op, hold, got)
			}
		}
	}
}

// P17.2: a task that does one operation behind the other: which ones it may begin, what it holds from the beginning of each on, and behind its end.
func TestOneBehindTheOther(t *testing.T) {
	hold := none
	for i, x := range []struct {
		op, ret  int
		may      bool
		at, then int
	}{
		{api.Unlock, api.RetMisuse, false, none, none},
		{api.RLock, api.RetTrue, true, none, read},
		{api.RLock, api.RetMisuse, false, read, read},
		{api.TryUpgrade, api.RetFalse, true, read, read},
		{api.TryUpgrade, api.RetTrue, true, read, write},
		{api.TryLock, api.RetMisuse, false, write, write},
		{api.RUnlock, api.RetMisuse, false, write, write},
		{api.Downgrade, api.RetTrue, true, read, read},
		{api.Downgrade, api.RetMisuse, false, read, read},
		{api.RUnlock, api.RetTrue, true, none, none},
		{api.TryRLock, api.RetFalse, true, none, none},
		{api.TryRLock, api.RetTrue, true, none, read},
		{api.RUnlock, api.RetTrue, true, none, none},
		{api.TryLock, api.RetFalse, true, none, none},
		{api.TryLock, api.RetTrue, true, none, write},
		{api.Unlock, api.RetTrue, true, none, none},
		{api.Lock, api.RetTrue, true, none, write},
		{api.Unlock, api.RetTrue, true, none, none},
	} {
		if got := suite.May(x.op, hold); got != x.may {
			t.Fatalf("number %d: one that holds %d may begin %d: %v", i, hold, x.op, got)
		}
		// What may not be begun isn't, and so it has no beginning.
		if x.may {
			hold = suite.At(x.op, hold)
		}
		if hold != x.at {
			t.Fatalf("number %d: from the beginning of %d on it holds %d", i, x.op, hold)
		}
		if hold = suite.Behind(x.op, x.ret, hold); hold != x.then {
			t.Fatalf("number %d: behind %d with %d it holds %d", i, x.op, x.ret, hold)
		}
	}
}

// P17.2: what may be begun by one that holds read or write leads to that, and to nothing else, for each operation that may be begun at all.
func TestClassAndHolding(t *testing.T) {
	for _, op := range operations() {
		for hold := range 3 {
			if !suite.May(op, hold) {
				continue
			}
			at := suite.At(op, hold)
			if at > hold {
				t.Errorf("the operation %d gives %d from its beginning on to one that held %d", op, at, hold)
			}
			then := suite.Behind(op, api.RetTrue, at)
			if then > at && then != suite.Class(op) {
				t.Errorf("the operation %d of the class %d gives %d", op, suite.Class(op), then)
			}
			if then == hold {
				t.Errorf("the operation %d, of one that held %d, leaves that", op, hold)
			}
		}
	}
}
