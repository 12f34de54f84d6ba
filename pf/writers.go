package pf

import (
	"stileman/api"
	"stileman/line"
)

// draw draws a ticket.
func draw(r *line.Run) {
	r.Frame.A = r.Add(win, 1)
	r.Note(api.NReg, api.HoldWrite)
	r.Go(1)
}

// awaitTurn waits until it is the turn of the task's ticket.
func awaitTurn(r *line.Run) {
	if _, done := r.Wait(wout, is(r.Frame.A)); done {
		r.Go(2)
	}
}

// keepPhase keeps the phase, for the line n.
func keepPhase(r *line.Run, n int) {
	r.Frame.B = r.Load(phase)
	r.Go(n)
}

// appear makes the writer present, and keeps how many readers came ahead of that, for the line n.
func appear(r *line.Run, n int) {
	r.Frame.A = r.Add(rin, presence(r.Frame.B))
	r.Note(api.NPresent, 0)
	r.Go(n)
}

// awaitReaders waits until all readers went that came ahead of the writer's presence.
func awaitReaders(r *line.Run) {
	seen, done := r.Wait(rout, is(r.Frame.A))
	admit(r, seen, done)
}

// vanish ends the writer's presence; in the same step it counts the task in by so much, who may go on as a reader.
func vanish(r *line.Run, in uint32, what int) {
	r.Add(rin, in-presence(r.Frame.B))
	r.Note(what, 0)
	r.Wake(rin)
	r.Go(2)
}

// countPhase counts the phase on, ahead of the next writer's turn.
func countPhase(r *line.Run) {
	// Nobody else stores it while the task has its ticket, and so it needs no add.
	r.Store(phase, r.Frame.B+1)
	r.Go(3)
}

// pass gives the ticket back, and ends the operation.
func pass(r *line.Run, ok bool) {
	r.Add(wout, 1)
	r.Note(api.NPass, 0)
	r.Wake(wout)
	r.End(ok)
}
