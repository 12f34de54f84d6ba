package pq

import (
	"stileman/api"
	"stileman/diff"
	"stileman/line"
	"stileman/mutex"
)

// tryOf answers what the line of r's frame does, if it is one of TryLock or TryUpgrade; else nil.
func tryOf(r *line.Run) func() {
	switch (spot{r.Frame.Op, r.Frame.Line}) {
	case spot{api.TryLock, 0}, spot{api.TryLock, 1}, spot{api.TryUpgrade, 0}, spot{api.TryUpgrade, 1}:
		return tryEnter(r)
	case spot{api.TryLock, 2}, spot{api.TryUpgrade, 2}:
		return countComers(r)
	case spot{api.TryLock, 3}:
		return weigh(r, 0)
	case spot{api.TryUpgrade, 3}:
		// The task reads itself; only others stand in its way.
		return weigh(r, reader)
	case spot{api.TryLock, 4}, spot{api.TryUpgrade, 4}:
		return keepPhase(r, 5)
	case spot{api.TryLock, 5}, spot{api.TryUpgrade, 5}:
		return appear(r, 6)
	case spot{api.TryLock, 6}:
		return awaitReaders(r)
	case spot{api.TryUpgrade, 6}:
		return awaitOthers(r)
	case spot{api.TryUpgrade, 7}:
		return stopReading(r)
	case spot{api.TryLock, 8}, spot{api.TryLock, 9}, spot{api.TryLock, 10}, spot{api.TryLock, 11},
		spot{api.TryUpgrade, 8}, spot{api.TryUpgrade, 9}, spot{api.TryUpgrade, 10}, spot{api.TryUpgrade, 11}:
		return giveOn(r, 8, false)
	}
	return nil
}

// tryEnter enters the queue of writers, if nobody is in it; else the try is refused.
func tryEnter(r *line.Run) func() {
	return func() {
		done, in := mutex.Try(r, tail, 0)
		switch {
		case in:
			r.Note(api.NReg, api.HoldWrite)
			r.Go(2)
		case done:
			r.Note(api.NRefuse, 0)
			r.End(false)
		}
	}
}

// countComers keeps how many readers came.
func countComers(r *line.Run) func() {
	return func() {
		r.Frame.A = r.Load(rin)
		r.Go(3)
	}
}

// weigh refuses the try, if more than so much of the readers that came hasn't gone.
func weigh(r *line.Run, own int) func() {
	return func() {
		r.Frame.B = r.Load(rout)
		if diff.Ahead(r.Frame.A, r.Frame.B) <= own {
			r.Go(4)
			return
		}
		// The try is in the queue, which it has to give on yet.
		r.Note(api.NRefuse, 0)
		r.Go(8)
	}
}

// awaitOthers waits until all readers went that came ahead of the writer's presence, but for the task itself.
func awaitOthers(r *line.Run) func() {
	return func() {
		seen, done := r.Wait(rout, func(v uint32) bool { return v == r.Frame.A-reader })
		// Who is parked is up by the step that saw it, though it has its watch to take back yet.
		if seen {
			r.Note(api.NUp, 0)
		}
		if done {
			r.Go(7)
		}
	}
}

// stopReading counts the task out as a reader, now that it writes; no writer but itself could wait for that.
func stopReading(r *line.Run) func() {
	return func() {
		r.Add(rout, reader)
		r.End(true)
	}
}
