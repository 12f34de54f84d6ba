package fq_test

import (
	"slices"

	"stileman/api"
)

// ledger is what the notes of a lock's tasks tell.
type ledger struct {
	hold    []int  // what each task holds
	asks    []int  // the class of each one's request that is registered, and neither admitted nor given up
	refused []bool // whether each one's try is refused
	queue   []int  // the tasks that stand in the queue, in their order
}

// opened makes a ledger of n tasks that hold nothing.
func opened(n int) ledger {
	return ledger{hold: make([]int, n), asks: make([]int, n), refused: make([]bool, n)}
}

// copied makes a ledger like l, in new memory.
func (l *ledger) copied() ledger {
	return ledger{hold: slices.Clone(l.hold), asks: slices.Clone(l.asks), refused: slices.Clone(l.refused), queue: slices.Clone(l.queue)}
}

// first tells whether the task is the first one in the queue.
func (l *ledger) first(task int) bool {
	return len(l.queue) > 0 && l.queue[0] == task
}

// noted keeps what a note of the task tells, which is with that operation, and answers what is wrong with it; empty: nothing is.
func (l *ledger) noted(task, op int, n api.Note) string {
	if n.Task != task || n.Op != 0 || n.Arg != 0 && n.What != api.NReg {
		return "it is another one's, or tells too much"
	}
	wrong := ""
	switch n.What {
	case api.NReg:
		wrong = l.registered(task, n.Arg)
	case api.NAdmit, api.NUp:
		wrong = l.admitted(task, n.What == api.NUp)
	case api.NRefuse:
		wrong = l.denied(task, op)
	case api.NRelease:
		wrong = l.left(task, api.HoldRead, api.HoldNone)
	case api.NLeave:
		wrong = l.left(task, api.HoldWrite, api.HoldNone)
	case api.NDown:
		wrong = l.left(task, api.HoldWrite, api.HoldRead)
	case api.NPass:
		wrong = l.passed(task)
	default:
		wrong = "there is none of that kind"
	}
	if wrong == "" && !l.exclusive() {
		wrong = "one holds write, and another one holds something"
	}
	return wrong
}

// registered keeps a request.
func (l *ledger) registered(task, class int) string {
	if l.asks[task] != 0 || slices.Contains(l.queue, task) {
		return "it has a request already"
	}
	l.asks[task] = class
	l.queue = append(l.queue, task)
	return ""
}

// admitted keeps that the task's request is admitted, in the order in which they were registered; a reader gives the queue on with that.
func (l *ledger) admitted(task int, up bool) string {
	class := l.asks[task]
	switch {
	case class == 0 || l.refused[task]:
		return "it has no request"
	case (l.hold[task] == api.HoldRead) != up || l.hold[task] == api.HoldWrite || up && class == api.HoldRead:
		return "it holds something, or nothing that it could go up from"
	case !l.first(task):
		return "another one comes first"
	}
	l.asks[task] = 0
	l.hold[task] = class
	if class == api.HoldRead {
		l.queue = l.queue[1:]
	}
	return ""
}

// denied keeps that the task's try is refused, for what another one holds, or asks for.
func (l *ledger) denied(task, op int) string {
	for i := range l.hold {
		if i == task {
			continue
		}
		if l.asks[i] != 0 || l.hold[i] == api.HoldWrite || l.hold[i] == api.HoldRead && op != api.TryRLock {
			l.refused[task] = true
			return ""
		}
	}
	return "nothing is in its way"
}

// left keeps that the task leaves, or goes down, and holds that then; who goes down gives the queue on.
func (l *ledger) left(task, held, then int) string {
	if l.hold[task] != held {
		return "it doesn't hold that"
	}
	l.hold[task] = then
	if then == api.HoldRead {
		return l.passed(task)
	}
	return ""
}

// passed keeps that the task gives the queue on.
func (l *ledger) passed(task int) string {
	if !l.first(task) || l.hold[task] == api.HoldWrite || l.asks[task] != 0 && !l.refused[task] {
		return "it isn't first, or its turn isn't over"
	}
	l.asks[task] = 0
	l.queue = l.queue[1:]
	return ""
}

// exclusive tells whether nobody holds anything beside one that holds write.
func (l *ledger) exclusive() bool {
	holders := 0
	for _, h := range l.hold {
		if h > 0 {
			holders++
		}
	}
	return holders < 2 || !slices.Contains(l.hold, api.HoldWrite)
}
