package pq

import (
	"stileman/api"
	"stileman/line"
	"stileman/mutex"
)

// enter enters the queue of writers.
func enter(r *line.Run) func() {
	return func() {
		if mutex.Enter(r, tail, api.HoldWrite) {
			r.Go(5)
		}
	}
}

// keepPhase keeps the phase, for the line n.
func keepPhase(r *line.Run, n int) func() {
	return func() {
		r.Frame.B = r.Load(phase)
		r.Go(n)
	}
}

// appear makes the writer present, and keeps how many readers came ahead of that, for the line n.
func appear(r *line.Run, n int) func() {
	return func() {
		r.Frame.A = r.Add(rin, presence(r.Frame.B))
		r.Note(api.NPresent, 0)
		r.Go(n)
	}
}

// awaitReaders waits until all readers went that came ahead of the writer's presence; the queue stays the task's.
func awaitReaders(r *line.Run) func() {
	return func() {
		seen, done := r.Wait(rout, func(v uint32) bool { return v == r.Frame.A })
		// Who is parked is in by the step that saw it, though it has its watch to take back yet.
		if seen {
			r.Note(api.NAdmit, 0)
		}
		if done {
			r.End(true)
		}
	}
}

// vanish ends the writer's presence; in the same step it counts the task in by so much, who may go on as a reader.
func vanish(r *line.Run, in uint32, what int) func() {
	return func() {
		r.Add(rin, in-presence(r.Frame.B))
		r.Note(what, 0)
		r.Wake(rin)
		r.Go(2)
	}
}

// countPhase counts the phase on, ahead of the next writer's turn.
func countPhase(r *line.Run) func() {
	return func() {
		// Nobody else stores it while the task has the queue, and so it needs no add.
		r.Store(phase, r.Frame.B+1)
		r.Go(3)
	}
}

// giveOn gives the queue on, from the line a on, and ends the operation.
func giveOn(r *line.Run, a int, ok bool) func() {
	return func() {
		if mutex.Give(r, tail, a, api.NPass) {
			r.End(ok)
		}
	}
}
