package wf_test

import (
	"slices"

	"stileman/api"
)

// nobody is no task.
const nobody = -1

// ledger is what the notes of a lock's tasks tell.
type ledger struct {
	hold        []int  // what each task holds
	asks        []int  // the class of each one's request that is registered, and not admitted
	refused     []bool // whether each one's try is refused
	leaving     []bool // whether each one has left as a writer, and not given its turn on
	queue       []int  // the tasks of which that class is write, in their order
	drawn, back int    // how many tickets were drawn, and how many given back
}

// opened makes a ledger of n tasks that hold nothing.
func opened(n int) ledger {
	return ledger{hold: make([]int, n), asks: make([]int, n), refused: make([]bool, n), leaving: make([]bool, n)}
}

// copied makes a ledger like l, in new memory.
func (l *ledger) copied() ledger {
	return ledger{
		hold: slices.Clone(l.hold), asks: slices.Clone(l.asks), refused: slices.Clone(l.refused), leaving: slices.Clone(l.leaving),
		queue: slices.Clone(l.queue), drawn: l.drawn, back: l.back,
	}
}

// holders are how many tasks hold that, but for that one.
func (l *ledger) holders(hold, but int) (n int) {
	for i, h := range l.hold {
		if i != but && h == hold {
			n++
		}
	}
	return n
}

// word is the lock's word, if tickets began to count at base.
func (l *ledger) word(base uint32) uint32 {
	base %= 256
	turn := (base + uint32(l.back)) % 256
	return (base+uint32(l.drawn))*65536 + turn*256 + uint32(l.holders(api.HoldRead, nobody))
}

// noted keeps what a note of the task tells, which is with that operation, and answers what is wrong with it; empty: nothing is.
func (l *ledger) noted(task, op int, n api.Note) string {
	if n.Task != task || n.Op != 0 || n.Arg != 0 && n.What != api.NReg {
		return "it is another one's, or tells too much"
	}
	wrong := ""
	switch n.What {
	case api.NReg:
		wrong = l.registered(task, op, n.Arg)
	case api.NAdmit, api.NUp:
		wrong = l.admitted(task, op, n.What == api.NUp)
	case api.NRefuse:
		wrong = l.denied(task, op)
	case api.NRelease, api.NLeave, api.NDown:
		wrong = l.left(task, n.What)
	case api.NPass:
		if !l.leaving[task] {
			wrong = "it hasn't left"
		}
		l.leaving[task] = false
	default:
		wrong = "there is none of that kind"
	}
	if writers := l.holders(api.HoldWrite, nobody); wrong == "" && (writers > 1 || writers > 0 && l.holders(api.HoldRead, nobody) > 0) {
		wrong = "one holds write, and another one holds something"
	}
	return wrong
}

// registered keeps a request; a writer draws its ticket with it. One who wants up has none.
func (l *ledger) registered(task, op, class int) string {
	want := map[int]int{api.RLock: api.HoldRead, api.TryRLock: api.HoldRead, api.Lock: api.HoldWrite, api.TryLock: api.HoldWrite}[op]
	if l.asks[task] != 0 || l.hold[task] != api.HoldNone || class != want || want == 0 {
		return "it has a request already, or holds something, or asks for something else"
	}
	l.asks[task] = class
	if class == api.HoldWrite {
		l.queue = append(l.queue, task)
		l.drawn++
	}
	return ""
}

// admitted keeps that the task's request is admitted, or that it goes up: a reader isn't while a writer is in, or waits; a writer not while another one is in, nor ahead of one that drew its ticket earlier.
func (l *ledger) admitted(task, op int, up bool) string {
	class := l.asks[task]
	if up {
		class = api.HoldWrite
	}
	first := len(l.queue) > 0 && l.queue[0] == task
	switch {
	case up && (l.hold[task] != api.HoldRead || op != api.TryUpgrade || l.asks[task] != 0):
		return "it doesn't read, or doesn't want up"
	case !up && (class == 0 || l.hold[task] != api.HoldNone):
		return "it has no request, or holds something"
	case l.holders(api.HoldWrite, task) > 0:
		return "another one writes"
	case class == api.HoldWrite && l.holders(api.HoldRead, task) > 0:
		return "another one reads"
	case len(l.queue) > 0 && !first:
		return "another one waits to write, or drew its ticket earlier"
	}
	if first {
		l.queue = l.queue[1:]
	}
	if up {
		l.drawn++
	}
	l.asks[task], l.hold[task] = 0, class
	return ""
}

// denied keeps that the task's try is refused, for what is in its way: a reader's for one that writes, or waits for that; a writer's also for another one that reads.
func (l *ledger) denied(task, op int) string {
	inWay := l.holders(api.HoldWrite, task) > 0 || len(l.queue) > 0
	if op != api.TryRLock {
		inWay = inWay || l.holders(api.HoldRead, task) > 0
	}
	if !inWay || l.asks[task] != 0 || op != api.TryRLock && op != api.TryLock && op != api.TryUpgrade {
		return "nothing is in its way, or it is no try, or registered"
	}
	l.refused[task] = true
	return ""
}

// left keeps that the task leaves, or goes down; a writer gives its ticket back with that.
func (l *ledger) left(task, what int) string {
	held, then := api.HoldWrite, api.HoldNone
	switch what {
	case api.NRelease:
		held = api.HoldRead
	case api.NDown:
		then = api.HoldRead
	}
	if l.hold[task] != held {
		return "it doesn't hold that"
	}
	l.hold[task] = then
	l.leaving[task] = what == api.NLeave
	if held == api.HoldWrite {
		l.back++
	}
	return ""
}
