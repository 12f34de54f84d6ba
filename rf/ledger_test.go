package rf_test

import (
	"slices"

	"stileman/api"
)

// nobody is no task.
const nobody = -1

// ledger is what the notes of a lock's tasks tell.
type ledger struct {
	hold    []int  // what each task holds
	asks    []int  // the class of each one's request that is registered, and not admitted
	refused []bool // whether each one's try is refused
	leaving []bool // whether each one has left as a writer, and not given its turn on
}

// opened makes a ledger of n tasks that hold nothing.
func opened(n int) ledger {
	return ledger{hold: make([]int, n), asks: make([]int, n), refused: make([]bool, n), leaving: make([]bool, n)}
}

// copied makes a ledger like l, in new memory.
func (l *ledger) copied() ledger {
	return ledger{hold: slices.Clone(l.hold), asks: slices.Clone(l.asks), refused: slices.Clone(l.refused), leaving: slices.Clone(l.leaving)}
}

// readers are how many tasks read, or wait for that, but for that one.
func (l *ledger) readers(but int) (n int) {
	for i := range l.hold {
		if i != but && (l.hold[i] == api.HoldRead || l.asks[i] == api.HoldRead) {
			n++
		}
	}
	return n
}

// writers are how many tasks write.
func (l *ledger) writers() (n int) {
	for _, h := range l.hold {
		if h == api.HoldWrite {
			n++
		}
	}
	return n
}

// noted keeps what a note of the task tells, which is with that operation, and answers what is wrong with it; empty: nothing is.
func (l *ledger) noted(task, op int, n api.Note) string {
	if n.Task != task || n.Op != 0 || n.Arg != 0 && n.What != api.NReg {
		return "it is another one's, or tells too much"
	}
	wrong := ""
	switch n.What {
	case api.NReg:
		wrong = l.registered(task, op, n.Arg)
	case api.NAdmit, api.NUp:
		wrong = l.admitted(task, op, n.What == api.NUp)
	case api.NRefuse:
		wrong = l.denied(task, op)
	case api.NRelease, api.NLeave, api.NDown:
		wrong = l.left(task, n.What)
	case api.NPass:
		if !l.leaving[task] {
			wrong = "it hasn't left"
		}
		l.leaving[task] = false
	default:
		wrong = "there is none of that kind"
	}
	if wrong == "" && l.writers() > 0 && len(l.hold)-len(l.holding(api.HoldNone)) > 1 {
		wrong = "one holds write, and another one holds something"
	}
	return wrong
}

// holding are the tasks that hold that.
func (l *ledger) holding(hold int) (all []int) {
	for i, h := range l.hold {
		if h == hold {
			all = append(all, i)
		}
	}
	return all
}

// registered keeps a request; one who wants up has none.
func (l *ledger) registered(task, op, class int) string {
	want := map[int]int{api.RLock: api.HoldRead, api.TryRLock: api.HoldRead, api.Lock: api.HoldWrite, api.TryLock: api.HoldWrite}[op]
	if l.asks[task] != 0 || l.hold[task] != api.HoldNone || class != want || want == 0 {
		return "it has a request already, or holds something, or asks for something else"
	}
	l.asks[task] = class
	return ""
}

// admitted keeps that the task's request is admitted, or that it goes up: a reader isn't while one writes, a writer not while another one reads, or waits for that.
func (l *ledger) admitted(task, op int, up bool) string {
	class := l.asks[task]
	if up {
		class = api.HoldWrite
	}
	switch {
	case up && (l.hold[task] != api.HoldRead || op != api.TryUpgrade):
		return "it doesn't read, or doesn't want up"
	case !up && (class == 0 || l.hold[task] != api.HoldNone):
		return "it has no request, or holds something"
	case l.writers() > 0:
		return "another one writes"
	case class == api.HoldWrite && l.readers(task) > 0:
		return "another one reads, or waits for that"
	}
	l.asks[task], l.hold[task] = 0, class
	return ""
}

// denied keeps that the task's try is refused, for what is in its way: a reader's for one that writes, a writer's for another one that holds something, or waits to read.
func (l *ledger) denied(task, op int) string {
	inWay := l.writers() > 0
	if op != api.TryRLock {
		inWay = inWay || l.readers(task) > 0
	}
	if !inWay || l.asks[task] != 0 || op != api.TryRLock && op != api.TryLock && op != api.TryUpgrade {
		return "nothing is in its way, or it is no try, or registered"
	}
	l.refused[task] = true
	return ""
}

// left keeps that the task leaves, or goes down.
func (l *ledger) left(task, what int) string {
	held, then := api.HoldWrite, api.HoldNone
	switch what {
	case api.NRelease:
		held = api.HoldRead
	case api.NDown:
		then = api.HoldRead
	}
	if l.hold[task] != held {
		return "it doesn't hold that"
	}
	l.hold[task] = then
	l.leaving[task] = what == api.NLeave
	return ""
}
