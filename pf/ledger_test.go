package pf_test

import (
	"slices"

	"stileman/api"
)

// nobody is no task.
const nobody = -1

// ledger is what the notes of a lock's tasks tell.
type ledger struct {
	hold    []int // what each task holds
	asks    []int // the class of each one's request that is registered, and neither admitted nor refused
	queue   []int // the tasks of which that is write, in their order
	present int   // the writer that is present, or nobody
	behind  []int // the writer that was present as the reader's request was registered, as long as it is
	passed  []int // how many writers got in since then
}

// opened makes a ledger of n tasks that hold nothing.
func opened(n int) ledger {
	return ledger{
		hold: make([]int, n), asks: make([]int, n), present: nobody,
		behind: slices.Repeat([]int{nobody}, n), passed: make([]int, n),
	}
}

// copied makes a ledger like l, in new memory.
func (l *ledger) copied() ledger {
	return ledger{
		hold: slices.Clone(l.hold), asks: slices.Clone(l.asks), queue: slices.Clone(l.queue), present: l.present,
		behind: slices.Clone(l.behind), passed: slices.Clone(l.passed),
	}
}

// noted keeps what a note tells, and answers what is wrong with it; empty: nothing is.
func (l *ledger) noted(task int, n api.Note) string {
	if n.Task != task || n.Op != 0 || n.Arg != 0 && n.What != api.NReg {
		return "it is another one's, or tells too much"
	}
	wrong := ""
	switch n.What {
	case api.NReg:
		wrong = l.registered(task, n.Arg)
	case api.NPresent:
		if l.present != nobody || len(l.queue) == 0 || l.queue[0] != task {
			wrong = "another one is present, or comes first"
		}
		l.present = task
	case api.NAdmit, api.NUp:
		wrong = l.admitted(task, n.What == api.NUp)
	case api.NRefuse:
		wrong = l.refused(task)
	case api.NRelease, api.NLeave, api.NDown:
		wrong = l.left(task, n.What)
	case api.NPass:
		if l.hold[task] == api.HoldWrite || l.asks[task] != 0 || l.present == task {
			wrong = "its turn isn't over"
		}
	default:
		wrong = "there is none of that kind"
	}
	if wrong == "" && !l.exclusive() {
		wrong = "one holds write, and another one holds something"
	}
	return wrong
}

// registered keeps a request.
func (l *ledger) registered(task, class int) string {
	if l.asks[task] != 0 {
		return "it has a request already"
	}
	l.asks[task] = class
	if class == api.HoldWrite {
		l.queue = append(l.queue, task)
	} else {
		l.behind[task], l.passed[task] = l.present, 0
	}
	return ""
}

// admitted keeps that the task's request is admitted: writers get in by their order, while they are present; readers not while that writer is present that was there ahead of them, and at most one writer gets in ahead of them.
func (l *ledger) admitted(task int, up bool) string {
	class := l.asks[task]
	if (l.hold[task] == api.HoldRead) != up || l.hold[task] == api.HoldWrite {
		return "it holds something, or nothing that it could go up from"
	}
	switch {
	case class == api.HoldRead && !up:
		if l.behind[task] != nobody {
			return "a writer that came ahead of it is present yet"
		}
	case class == api.HoldWrite:
		if l.present != task || l.queue[0] != task {
			return "it isn't present, or another one comes first"
		}
		l.queue = l.queue[1:]
	default:
		return "it has no such request"
	}
	l.asks[task] = 0
	l.hold[task] = class
	if class == api.HoldWrite {
		for i, asks := range l.asks {
			if asks == api.HoldRead {
				l.passed[i]++
			}
			if asks == api.HoldRead && l.passed[i] > 1 {
				return "two writers get in ahead of a reader"
			}
		}
	}
	return ""
}

// refused keeps that the task's request, if it has one, is refused.
func (l *ledger) refused(task int) string {
	if l.asks[task] == api.HoldRead || l.present == task {
		return "its request can't be refused any more"
	}
	if l.asks[task] == api.HoldWrite {
		if l.queue[0] != task {
			return "another one comes first"
		}
		l.queue = l.queue[1:]
	}
	l.asks[task] = 0
	return ""
}

// left keeps that the task leaves, or goes down.
func (l *ledger) left(task, what int) string {
	want, then := api.HoldWrite, api.HoldNone
	switch what {
	case api.NRelease:
		want = api.HoldRead
	case api.NDown:
		then = api.HoldRead
	}
	if l.hold[task] != want || want == api.HoldWrite && l.present != task {
		return "it doesn't hold that"
	}
	l.hold[task] = then
	if want == api.HoldWrite {
		l.present = nobody
		for i := range l.behind {
			if l.behind[i] == task {
				l.behind[i] = nobody
			}
		}
	}
	return ""
}

// exclusive tells whether nobody holds anything beside one that holds write.
func (l *ledger) exclusive() bool {
	holders, writers := 0, 0
	for _, h := range l.hold {
		if h > 0 {
			holders++
		}
		if h == api.HoldWrite {
			writers++
		}
	}
	return writers == 0 || holders == 1
}
