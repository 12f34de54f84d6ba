package world_test

import (
	"slices"
	"testing"

	"stileman/api"
	"stileman/note"
	"stileman/world"
)

// P18.1: the chapter's example: of readers-first two tasks that rlock return true at once, and both read.
func TestBothReturnAtOnce(t *testing.T) {
	for _, mode := range modes() {
		w := made(t, api.ReadersFirst, mode, 2, 0)
		got := note.Rows(w.Run(api.Pick{Task: 0, Op: api.RLock}, api.Pick{Task: 1, Op: api.RLock})...)
		want := []string{
			"0 call rlock", "0 reg read", "0 admit", "0 return rlock true",
			"1 call rlock", "1 reg read", "1 admit", "1 return rlock true",
		}
		if !slices.Equal(got, want) {
			t.Errorf("the mode %d: %q, want %q", mode, got, want)
		}
		holds(t, w, read, read)
	}
}

// The document's first example: two tasks that rlock read both, of every kind.
func TestTwoRead(t *testing.T) {
	each(t, 2, func(w *world.World) {
		ends(t, w, 0, api.RLock, api.RetTrue)
		ends(t, w, 1, api.RLock, api.RetTrue)
		holds(t, w, read, read)
	})
}

// The second one: who wants to read while one writes waits until that one unlocks.
func TestReaderWaits(t *testing.T) {
	each(t, 2, func(w *world.World) {
		ends(t, w, 0, api.Lock, api.RetTrue)
		ends(t, w, 1, api.RLock, api.RetNone)
		holds(t, w, write, none)
		ends(t, w, 0, api.Unlock, api.RetTrue)
		ends(t, w, 1, api.Rest, api.RetTrue)
		holds(t, w, none, read)
	})
}

// The third and the fourth one: while one reads and a writer waits, a second reader gets in at once of the kind in which readers go first, and of no other one.
func TestSecondReader(t *testing.T) {
	each(t, 3, func(w *world.World) {
		ends(t, w, 0, api.RLock, api.RetTrue)
		ends(t, w, 1, api.Lock, api.RetNone)
		if w.State().Kind == api.ReadersFirst {
			ends(t, w, 2, api.RLock, api.RetTrue)
		} else {
			ends(t, w, 2, api.RLock, api.RetNone)
		}
		leave(t, w)
	})
}

// The fifth one: of a reader that came between two writers, and the second one of these, the kind tells who gets in when the first one leaves.
func TestBetweenTwoWriters(t *testing.T) {
	each(t, 3, func(w *world.World) {
		ends(t, w, 0, api.Lock, api.RetTrue)
		ends(t, w, 2, api.RLock, api.RetNone)
		ends(t, w, 1, api.Lock, api.RetNone)
		ends(t, w, 0, api.Unlock, api.RetTrue)
		// Each goes on as far as it gets, whoever goes on first.
		for range 2 {
			goOn(t, w, 1, api.Rest)
			goOn(t, w, 2, api.Rest)
		}
		if w.State().Kind == api.WritersFirst {
			holds(t, w, none, write, none)
		} else {
			holds(t, w, none, none, read)
		}
		leave(t, w)
	})
}

// The fifth one, again: where the reader came behind both writers it gets in between them of the phase-fair kinds, and where readers go first.
func TestBehindTwoWriters(t *testing.T) {
	each(t, 3, func(w *world.World) {
		ends(t, w, 0, api.Lock, api.RetTrue)
		ends(t, w, 1, api.Lock, api.RetNone)
		ends(t, w, 2, api.RLock, api.RetNone)
		ends(t, w, 0, api.Unlock, api.RetTrue)
		for range 2 {
			goOn(t, w, 1, api.Rest)
			goOn(t, w, 2, api.Rest)
		}
		switch w.State().Kind {
		case api.PhaseFair, api.PhaseQueue, api.ReadersFirst:
			holds(t, w, none, none, read)
		default:
			holds(t, w, none, write, none)
		}
		leave(t, w)
	})
}

// The sixth one: a reader alone gets up; beside another one it doesn't, and still reads.
func TestUp(t *testing.T) {
	each(t, 2, func(w *world.World) {
		ends(t, w, 0, api.RLock, api.RetTrue)
		ends(t, w, 0, api.TryUpgrade, api.RetTrue)
		holds(t, w, write, none)
		ends(t, w, 0, api.Downgrade, api.RetTrue)
		ends(t, w, 1, api.RLock, api.RetTrue)
		ends(t, w, 0, api.TryUpgrade, api.RetFalse)
		holds(t, w, read, read)
	})
}

// The seventh one: readers that waited read with a writer that goes down, which reads from the beginning of that on.
func TestDown(t *testing.T) {
	each(t, 3, func(w *world.World) {
		ends(t, w, 0, api.Lock, api.RetTrue)
		ends(t, w, 1, api.RLock, api.RetNone)
		ends(t, w, 2, api.RLock, api.RetNone)
		pick(t, w, 0, api.Downgrade)
		holds(t, w, read, none, none)
		for range 3 {
			for task := range 3 {
				goOn(t, w, task, api.Rest)
			}
		}
		holds(t, w, read, read, read)
	})
}

// The eighth one: unlock of one that doesn't hold is misuse, and changes nothing.
func TestUnlockOfNone(t *testing.T) {
	each(t, 2, func(w *world.World) {
		s := w.State()
		ends(t, w, 1, api.Unlock, api.RetMisuse)
		ends(t, w, 1, api.RUnlock, api.RetMisuse)
		if !same(w.State(), s) {
			t.Errorf("%+v, and was %+v", w.State(), s)
		}
		ends(t, w, 0, api.Lock, api.RetTrue)
		ends(t, w, 1, api.Unlock, api.RetMisuse)
		holds(t, w, write, none)
	})
}

// The ninth one: trylock while one reads is false.
func TestTryWhileOneReads(t *testing.T) {
	each(t, 2, func(w *world.World) {
		ends(t, w, 0, api.RLock, api.RetTrue)
		ends(t, w, 1, api.TryLock, api.RetFalse)
		holds(t, w, read, none)
	})
}

// The tenth one: parked, who waits is stuck until it has a permit; spinning, it never is.
func TestStuckUntilPermit(t *testing.T) {
	each(t, 2, func(w *world.World) {
		parked := w.State().Mode == api.Parked
		ends(t, w, 0, api.Lock, api.RetTrue)
		ends(t, w, 1, api.Lock, api.RetNone)
		for range 5 {
			if e := pick(t, w, 1, api.Rest); w.Stuck(1) != parked || e.Ran == parked {
				t.Fatalf("it is stuck: %v: %+v, %+v", w.Stuck(1), e, w.State())
			}
		}
		ends(t, w, 0, api.Unlock, api.RetTrue)
		if w.Stuck(1) {
			t.Fatalf("it is stuck: %+v", w.State())
		}
		ends(t, w, 1, api.Rest, api.RetTrue)
		holds(t, w, none, write)
	})
}
