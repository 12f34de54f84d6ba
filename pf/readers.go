package pf

import (
	"stileman/api"
	"stileman/line"
)

// come counts a reader in, who reads at once, if no writer is present.
func come(r *line.Run) {
	r.Frame.A = r.Add(rin, reader)
	r.Note(api.NReg, api.HoldRead)
	if bits(r.Frame.A) != 0 {
		r.Go(1)
		return
	}
	r.Note(api.NAdmit, 0)
	r.End(true)
}

// awaitLeave waits until the writer that was present, as the reader came, is present no more.
func awaitLeave(r *line.Run) {
	saw := bits(r.Frame.A)
	seen, done := r.Wait(rin, func(v uint32) bool { return bits(v) != saw })
	admit(r, seen, done)
}

// admit admits the task with the step that saw what it waits for, and ends the operation when the waiting is done.
func admit(r *line.Run, seen, done bool) {
	// Who is parked is in by the step that saw it, though it has its watch to take back yet.
	if seen {
		r.Note(api.NAdmit, 0)
	}
	if done {
		r.End(true)
	}
}

// depart counts a reader out.
func depart(r *line.Run) {
	r.Add(rout, reader)
	r.Note(api.NRelease, 0)
	r.Wake(rout)
	r.End(true)
}

// lookIn keeps how many readers came, and refuses the try, if a writer is present.
func lookIn(r *line.Run) {
	r.Frame.A = r.Load(rin)
	if bits(r.Frame.A) == 0 {
		r.Go(1)
		return
	}
	r.Note(api.NRefuse, 0)
	r.End(false)
}

// slipIn counts a reader in, if rin is as it was looked at; else it looks again.
func slipIn(r *line.Run) {
	if !r.Cas(rin, r.Frame.A, r.Frame.A+reader) {
		r.Go(0)
		return
	}
	r.Note(api.NReg, api.HoldRead)
	r.Note(api.NAdmit, 0)
	r.End(true)
}
