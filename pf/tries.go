package pf

import (
	"stileman/api"
	"stileman/diff"
	"stileman/line"
)

// tries does the line of r's frame, if it is one of TryLock or TryUpgrade.
func tries(r *line.Run) {
	switch (spot{r.Frame.Op, r.Frame.Line}) {
	case spot{api.TryLock, 0}, spot{api.TryUpgrade, 0}:
		look(r, win, 1)
	case spot{api.TryLock, 1}, spot{api.TryUpgrade, 1}:
		weighTickets(r)
	case spot{api.TryLock, 2}, spot{api.TryUpgrade, 2}:
		claim(r)
	case spot{api.TryLock, 3}, spot{api.TryUpgrade, 3}:
		look(r, rin, 4)
	case spot{api.TryLock, 4}:
		weighReaders(r, 0)
	case spot{api.TryUpgrade, 4}:
		// The task reads itself; only others stand in its way.
		weighReaders(r, reader)
	case spot{api.TryLock, 5}, spot{api.TryUpgrade, 5}:
		keepPhase(r, 6)
	case spot{api.TryLock, 6}, spot{api.TryUpgrade, 6}:
		appear(r, 7)
	case spot{api.TryLock, 7}:
		awaitReaders(r)
	case spot{api.TryUpgrade, 7}:
		awaitOthers(r)
	case spot{api.TryUpgrade, 8}:
		stopReading(r)
	case spot{api.TryLock, 9}, spot{api.TryUpgrade, 9}:
		pass(r, false)
	}
}

// look keeps the word of c, for the line n.
func look(r *line.Run, c, n int) {
	r.Frame.A = r.Load(c)
	r.Go(n)
}

// weighTickets refuses the try, if a ticket isn't given back that was drawn ahead of the one that was looked at.
func weighTickets(r *line.Run) {
	r.Frame.B = r.Load(wout)
	ahead := diff.Ahead(r.Frame.A, r.Frame.B)
	switch {
	case ahead > 0:
		r.Note(api.NRefuse, 0)
		r.End(false)
	case ahead < 0:
		// Others have drawn and gone on since the look: the ticket is an old one.
		r.Go(0)
	default:
		r.Go(2)
	}
}

// claim draws the ticket that was looked at, if nobody has drawn it since; else it looks again.
func claim(r *line.Run) {
	if !r.Cas(win, r.Frame.A, r.Frame.A+1) {
		r.Go(0)
		return
	}
	r.Note(api.NReg, api.HoldWrite)
	r.Go(3)
}

// weighReaders refuses the try, if more than so much of the readers that came hasn't gone.
func weighReaders(r *line.Run, own int) {
	r.Frame.B = r.Load(rout)
	if diff.Ahead(r.Frame.A, r.Frame.B) <= own {
		r.Go(5)
		return
	}
	// The try has a ticket, which has to be given back yet.
	r.Note(api.NRefuse, 0)
	r.Go(9)
}

// awaitOthers waits until all readers went that came ahead of the writer's presence, but for the task itself.
func awaitOthers(r *line.Run) {
	seen, done := r.Wait(rout, is(r.Frame.A-reader))
	// Who is parked is up by the step that saw it, though it has its watch to take back yet.
	if seen {
		r.Note(api.NUp, 0)
	}
	if done {
		r.Go(8)
	}
}

// stopReading counts the task out as a reader, now that it writes; no writer but itself could wait for that.
func stopReading(r *line.Run) {
	r.Add(rout, reader)
	r.End(true)
}
