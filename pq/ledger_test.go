package pq_test

import (
	"slices"

	"stileman/api"
)

// nobody is no task.
const nobody = -1

// ledger is what the notes of a lock's tasks tell.
type ledger struct {
	hold    []int  // what each task holds
	asks    []int  // the class of each one's request that is registered, and neither admitted nor refused
	refused []bool // whether each one's try is refused
	queue   []int  // the tasks that stand in the queue of writers, in their order
	present int    // the writer that is present, or nobody
	behind  []int  // the writer that was present as the reader's request was registered, as long as it is
	passed  []int  // how many writers got in since then
}

// opened makes a ledger of n tasks that hold nothing.
func opened(n int) ledger {
	return ledger{
		hold: make([]int, n), asks: make([]int, n), refused: make([]bool, n), present: nobody,
		behind: slices.Repeat([]int{nobody}, n), passed: make([]int, n),
	}
}

// copied makes a ledger like l, in new memory.
func (l *ledger) copied() ledger {
	return ledger{
		hold: slices.Clone(l.hold), asks: slices.Clone(l.asks), refused: slices.Clone(l.refused), queue: slices.Clone(l.queue),
		present: l.present, behind: slices.Clone(l.behind), passed: slices.Clone(l.passed),
	}
}

// first tells whether the task is the first one in the queue.
func (l *ledger) first(task int) bool {
	return len(l.queue) > 0 && l.queue[0] == task
}

// noted keeps what a note of the task tells, which is with that operation, and answers what is wrong with it; empty: nothing is.
func (l *ledger) noted(task, op int, n api.Note) string {
	if n.Task != task || n.Op != 0 || n.Arg != 0 && n.What != api.NReg {
		return "it is another one's, or tells too much"
	}
	wrong := ""
	switch n.What {
	case api.NReg:
		wrong = l.registered(task, op, n.Arg)
	case api.NPresent:
		wrong = l.appeared(task)
	case api.NAdmit, api.NUp:
		wrong = l.admitted(task, n.What == api.NUp)
	case api.NRefuse:
		wrong = l.denied(task, op)
	case api.NRelease, api.NLeave, api.NDown:
		wrong = l.left(task, n.What)
	case api.NPass:
		wrong = l.given(task)
	default:
		wrong = "there is none of that kind"
	}
	if wrong == "" && !l.exclusive() {
		wrong = "one holds write, and another one holds something"
	}
	return wrong
}

// registered keeps a request; one of a try that wants to write only if nobody is in the queue.
func (l *ledger) registered(task, op, class int) string {
	if l.asks[task] != 0 || slices.Contains(l.queue, task) {
		return "it has a request already"
	}
	l.asks[task] = class
	if class == api.HoldRead {
		l.behind[task], l.passed[task] = l.present, 0
		return ""
	}
	if op != api.Lock && len(l.queue) > 0 {
		return "another one is in the queue"
	}
	l.queue = append(l.queue, task)
	return ""
}

// appeared keeps that the task is present as a writer.
func (l *ledger) appeared(task int) string {
	if l.present != nobody || !l.first(task) || l.asks[task] != api.HoldWrite {
		return "another one is present, or comes first, or it doesn't want to write"
	}
	l.present = task
	return ""
}

// admitted keeps that the task's request is admitted: writers get in by their order, while they are present; readers not while that writer is present that was there ahead of them.
func (l *ledger) admitted(task int, up bool) string {
	class := l.asks[task]
	switch {
	case class == 0:
		return "it has no request"
	case (l.hold[task] == api.HoldRead) != up || l.hold[task] == api.HoldWrite || up && class == api.HoldRead:
		return "it holds something, or nothing that it could go up from"
	case class == api.HoldRead && l.behind[task] != nobody:
		return "a writer that came ahead of it is present yet"
	case class == api.HoldWrite && (l.present != task || !l.first(task)):
		return "it isn't present, or another one comes first"
	}
	l.asks[task], l.hold[task] = 0, class
	if class == api.HoldWrite {
		return l.overtaken()
	}
	return ""
}

// overtaken keeps that a writer got in ahead of the readers that wait: at most one does.
func (l *ledger) overtaken() string {
	for i, asks := range l.asks {
		if asks != api.HoldRead {
			continue
		}
		if l.passed[i]++; l.passed[i] > 1 {
			return "two writers get in ahead of a reader"
		}
	}
	return ""
}

// denied keeps that the task's try is refused, for what is in its way: a reader's for a writer that is present; a writer's for one in the queue, or, if it has entered that, for another one that reads, or is about to.
func (l *ledger) denied(task, op int) string {
	inWay := l.present != nobody
	if op != api.TryRLock {
		inWay = len(l.queue) > 0
		if l.asks[task] != 0 {
			inWay = l.readers(task) > 0
		}
	}
	if !inWay || l.present == task {
		return "nothing is in its way"
	}
	l.asks[task], l.refused[task] = 0, true
	return ""
}

// readers are how many tasks read, or wait for that, but for that one.
func (l *ledger) readers(but int) (n int) {
	for i := range l.hold {
		if i != but && (l.hold[i] == api.HoldRead || l.asks[i] == api.HoldRead) {
			n++
		}
	}
	return n
}

// left keeps that the task leaves, or goes down.
func (l *ledger) left(task, what int) string {
	held, then := api.HoldWrite, api.HoldNone
	switch what {
	case api.NRelease:
		held = api.HoldRead
	case api.NDown:
		then = api.HoldRead
	}
	if l.hold[task] != held || held == api.HoldWrite && l.present != task {
		return "it doesn't hold that"
	}
	l.hold[task] = then
	if held == api.HoldRead {
		return ""
	}
	l.present = nobody
	for i := range l.behind {
		if l.behind[i] == task {
			l.behind[i] = nobody
		}
	}
	return ""
}

// given keeps that the task gives the queue on.
func (l *ledger) given(task int) string {
	if !l.first(task) || l.present == task || l.hold[task] == api.HoldWrite || l.asks[task] != 0 {
		return "it isn't first, or its turn isn't over"
	}
	l.queue = l.queue[1:]
	return ""
}

// exclusive tells whether nobody holds anything beside one that holds write.
func (l *ledger) exclusive() bool {
	holders := 0
	for _, h := range l.hold {
		if h > 0 {
			holders++
		}
	}
	return holders < 2 || !slices.Contains(l.hold, api.HoldWrite)
}
