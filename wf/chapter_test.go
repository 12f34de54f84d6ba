package wf_test

import (
	"slices"
	"strconv"
	"strings"
	"testing"

	"stileman/api"
	"stileman/cells"
	"stileman/line"
	"stileman/place"
	"stileman/wf"
)

// rows are the chapter's rows as it writes them, by the operation and the line.
func rows() map[int][]string {
	return map[int][]string{
		api.RLock: {
			"A = load word [reg read]; if I is O in A: 1; else 2",
			"cas word, A, A + 1: if it was A [admit]; true; else 3",
			"A = wait word until I is O in it; 1",
			"A = load word; if I is O in A: 1; else 2",
		},
		api.RUnlock: {
			"add word, -1 [release]; wake word; true",
		},
		api.Lock: {
			"A = add word, 65536 [reg write]; 1",
			"wait word until O is A's I, and R is 0 [admit]; true",
		},
		api.Unlock: {
			"A = load word; 1",
			"add word, next of A [leave, pass]; wake word; true",
		},
		api.TryRLock: {
			"A = load word; if I isn't O in A: [refuse]; false; else 1",
			"cas word, A, A + 1: if it was A [reg read, admit]; true; else 0",
		},
		api.TryLock: {
			"A = load word; if I isn't O in A, or R isn't 0: [refuse]; false; else 1",
			"cas word, A, A + 65536: if it was A [reg write, admit]; true; else 0",
		},
		api.TryUpgrade: {
			"A = load word; if I isn't O in A, or R isn't 1: [refuse]; false; else 1",
			"cas word, A, A + 65535: if it was A [up]; true; else 0",
		},
		api.Downgrade: {
			"A = load word; 1",
			"add word, next of A, and 1 more [down]; wake word; true",
		},
	}
}

// reader reads a row, clause by clause, and does it on a run.
type reader struct {
	t      *testing.T
	r      *line.Run
	on     bool // whether clauses are done
	chosen bool // whether one of the row's cases has come
	was    bool // whether a cas found what it expected
}

// fields are the word's I, O and R.
func fields(v uint32) (i, o, r uint32) {
	return v / w % 256, v / 256 % 256, v % 256
}

// isFree tells whether I is O in v.
func isFree(v uint32) bool {
	i, o, _ := fields(v)
	return i == o
}

// next is what makes v's O one more, and goes round with it.
func next(v uint32) uint32 {
	if _, o, _ := fields(v); o == 255 {
		return top - 255*256 + 1
	}
	return 256
}

// apart are the row's clauses; what stands in brackets is in one piece.
func apart(row string) (l []string) {
	inBrackets := false
	l = strings.FieldsFunc(row, func(c rune) bool {
		inBrackets = c == '[' || inBrackets && c != ']'
		return !inBrackets && (c == ';' || c == ':')
	})
	for i, s := range l {
		l[i] = strings.TrimSpace(s)
	}
	return l
}

// row does the row.
func (x *reader) row(row string) {
	x.on, x.chosen = true, false
	for _, s := range apart(row) {
		s, notes, _ := strings.Cut(strings.TrimSuffix(x.cases(s), "]"), "[")
		if x.clause(strings.TrimSpace(s)) && notes != "" {
			x.notes(notes)
		}
	}
}

// cases takes a case off the clause's begin, and lets only what is behind it be done, if it comes.
func (x *reader) cases(s string) string {
	a := x.r.Frame.A
	for _, c := range []struct {
		words string
		comes bool
	}{
		{"if I isn't O in A, or R isn't 0", !isFree(a) || a%256 != 0},
		{"if I isn't O in A, or R isn't 1", !isFree(a) || a%256 != 1},
		{"if I isn't O in A", !isFree(a)},
		{"if I is O in A", isFree(a)},
		{"if it was A", x.was},
		{"else ", true},
	} {
		if rest, ok := strings.CutPrefix(s, c.words); ok {
			x.on = c.comes && !x.chosen
			x.chosen = x.chosen || c.comes
			return rest
		}
	}
	return s
}

// clause does a clause without its notes, and tells whether these are done with it.
func (x *reader) clause(s string) bool {
	if !x.on || s == "" {
		return x.on
	}
	r := x.r
	s, kept := strings.CutPrefix(s, "A = ")
	keep := func(v uint32) {
		if kept {
			r.Frame.A = v
		}
	}
	verb, rest, _ := strings.Cut(s, " ")
	rest = strings.TrimPrefix(rest, "word")
	l := strings.Split(rest, ", ")
	switch verb {
	case "true", "false":
		r.End(verb == "true")
	case "load":
		keep(r.Load(0))
	case "add":
		keep(r.Add(0, x.sum(strings.Join(l[1:], " "))))
	case "cas":
		x.was = r.Cas(0, x.sum(l[1]), x.sum(l[2]))
	case "wake":
		r.Wake(0)
	case "wait":
		seen, done := r.Wait(0, x.until(rest))
		if seen {
			keep(r.Access.Old)
		}
		x.on = done
		return seen
	default:
		r.Go(int(x.sum(s)))
	}
	return true
}

// until is what is waited for.
func (x *reader) until(s string) func(v uint32) bool {
	mine, _, _ := fields(x.r.Frame.A)
	switch s {
	case " until I is O in it":
		return isFree
	case " until O is A's I, and R is 0":
		return func(v uint32) bool {
			_, o, r := fields(v)
			return o == mine && r == 0
		}
	}
	x.t.Fatalf("it waits for nothing: %q", s)
	return nil
}

// sum is the word that s tells.
func (x *reader) sum(s string) (v uint32) {
	s = strings.Replace(s, "and 1 more", "+ 1", 1)
	s = strings.Replace(s, "next of A", "next", 1)
	sign := uint32(1)
	for _, word := range strings.Fields(strings.Replace(s, "-", "- ", 1)) {
		switch word {
		case "+":
			sign = 1
		case "-":
			sign = top
		case "A":
			v += sign * x.r.Frame.A
		case "next":
			v += sign * next(x.r.Frame.A)
		default:
			n, err := strconv.Atoi(word)
			if err != nil {
				x.t.Fatalf("no number: %q", s)
			}
			v += sign * uint32(n)
		}
	}
	return v
}

// notes notes what is listed.
func (x *reader) notes(l string) {
	for _, s := range strings.Split(l, ", ") {
		what, class, _ := strings.Cut(s, " ")
		n, ok := map[string]int{
			"reg": api.NReg, "admit": api.NAdmit, "refuse": api.NRefuse, "release": api.NRelease,
			"leave": api.NLeave, "pass": api.NPass, "up": api.NUp, "down": api.NDown,
		}[what]
		if !ok {
			x.t.Fatalf("no note: %q", s)
		}
		x.r.Note(n, map[string]int{"read": api.HoldRead, "write": api.HoldWrite}[class])
	}
}

// chapter does the line of r's frame as the chapter's rows tell.
func chapter(t *testing.T) func(r *line.Run) {
	all := rows()
	return func(r *line.Run) {
		l := all[r.Frame.Op]
		if n := r.Frame.Line; n >= 0 && n < len(l) {
			x := &reader{t: t, r: r}
			x.row(l[n])
		}
	}
}

// told is a run ahead of a step, and the words of its memory's cells; without a memory, if these are nil.
type told struct {
	run   line.Run
	words []uint32
}

// fresh makes the run with a memory of its own.
func (x told) fresh() *line.Run {
	r := x.run
	r.Notes = slices.Clone(r.Notes)
	if x.words != nil {
		r.Mem, _ = cells.From(x.words...)
	}
	return &r
}

// holds fails the test, unless the package's lines do what the chapter's rows tell, as a step, and called by themselves.
func (x told) holds(t *testing.T, rows func(r *line.Run)) {
	t.Helper()
	got, want := x.fresh(), x.fresh()
	over, wantOver := got.Step(wf.Lines), want.Step(rows)
	if over != wantOver {
		t.Fatalf("%+v: over %v, want %v", x, over, wantOver)
	}
	x.same(t, got, want)
	got, want = x.fresh(), x.fresh()
	wf.Lines(got)
	rows(want)
	x.same(t, got, want)
}

// same fails the test, if a part of the run, or a cell's word, is another one than it is to be.
func (x told) same(t *testing.T, got, want *line.Run) {
	t.Helper()
	if got.Frame != want.Frame || got.Access != want.Access || !slices.Equal(got.Notes, want.Notes) {
		t.Fatalf("%+v: %+v, %+v, %+v, want %+v, %+v, %+v", x, got.Frame, got.Access, got.Notes, want.Frame, want.Access, want.Notes)
	}
	if got.Map != want.Map || got.Mode != want.Mode || got.Task != want.Task || (got.Mem == nil) != (want.Mem == nil) {
		t.Fatalf("%+v: the run is %+v, want %+v", x, got, want)
	}
	if l, all := got.Mem.All(), want.Mem.All(); !slices.Equal(l, all) {
		t.Fatalf("%+v: the cells are %x, want %x", x, l, all)
	}
}

// everywhere calls do for each line of each operation, and for the lines beside them.
func everywhere(do func(op, n int)) {
	for op := range 10 {
		for n := -1; n <= 4; n++ {
			do(op, n)
		}
	}
}

// size is how many cells a lock for n tasks has; of a number that no lock has some that are there all the same.
func size(n int) int {
	if n < 1 || n > api.MaxTasks {
		return 300
	}
	return 8 + 4*n
}

// keptBeside are words that a frame may have in A where the lock's word is v: like it, beside it, and with the turn of v as I.
func keptBeside(v uint32) []uint32 {
	mine := v << 8
	return []uint32{
		v, v + 1, v - 1, v + 256, v - 256, v + w, v - w, v ^ 1<<24, v ^ half, mine, mine ^ 0xff0000ff, mine + w, mine - w,
		0, 1, w, word(0, 255, 0), word(255, 254, 0), word(7, 255, 1), word(255, 255, 255), top,
	}
}

// someWords are a few words: free ones and others, with readers inside and without.
func someWords() []uint32 {
	return []uint32{0, 1, 2, w, w + 1, w + 256, w + 257, word(1, 2, 0), word(0, 255, 0), word(255, 255, 1), top}
}

// P16.1: each line of each operation, and those beside them, in the two modes, with all words that matter in the lock's cell, in A and in B.
func TestChapter(t *testing.T) {
	lines := chapter(t)
	everywhere(func(op, n int) {
		for _, v := range words() {
			x := told{words: marked(20, v)}
			for _, mode := range modes() {
				x.run = line.Run{Map: place.Map{N: 3}, Mode: mode, Task: 1}
				for _, a := range keptBeside(v) {
					for _, b := range []uint32{0, v, top} {
						x.run.Frame = api.Frame{Op: op, Line: n, A: a, B: b}
						x.holds(t, lines)
					}
				}
			}
		}
	})
}

// P16.1: all tasks, also those that aren't there, of all numbers of tasks, also those that no lock has, from each stage of waiting.
func TestChapterOfTasks(t *testing.T) {
	lines := chapter(t)
	for op, l := range rows() {
		for n := range l {
			for _, of := range append(counts(), noCounts()...) {
				for _, task := range append(noTasks(of), 0, of/2, of-1) {
					for _, mode := range modes() {
						for _, v := range []uint32{0, 1, w, w + 1, w + 256} {
							x := told{words: marked(size(of), v)}
							x.run = line.Run{Map: place.Map{N: of}, Mode: mode, Task: task}
							for stage := range 5 {
								for _, a := range []uint32{v, v << 8} {
									x.run.Frame = api.Frame{Op: op, Line: n, A: a, B: 9, Wait: api.Wait{Stage: stage}}
									x.holds(t, lines)
								}
							}
						}
					}
				}
			}
		}
	}
}

// P16.1: each line from each stage of waiting, also one that is none, with a permit and without one, in all modes.
func TestChapterOfStages(t *testing.T) {
	lines := chapter(t)
	everywhere(func(op, n int) {
		for _, mode := range append(spins(), api.Parked) {
			for _, stage := range stages() {
				for _, permit := range []uint32{0, 1, top} {
					for _, v := range someWords() {
						x := told{words: marked(16, v)}
						x.words[15] = permit
						x.run = line.Run{Map: place.Map{N: 2}, Mode: mode, Task: 1}
						for _, a := range []uint32{0, v, v << 8} {
							x.run.Frame = api.Frame{Op: op, Line: n, A: a, B: 99, Wait: api.Wait{Stage: stage}}
							x.holds(t, lines)
						}
					}
				}
			}
		}
	})
}

// P16.1: a result, an access and notes that are there at the begin, and a wake-up that is on: that goes first in a step, and the line is done then.
func TestChapterOfFrames(t *testing.T) {
	lines := chapter(t)
	everywhere(func(op, n int) {
		for _, ret := range []int{0, 1, 2, 3, -1, 99} {
			for _, wake := range []api.Wake{{}, {On: true}, {On: true, Cell: 3, I: 1, Hit: true}, {On: true, I: 7}, {Cell: 4, I: 1}} {
				for _, mode := range []int{api.Spin, api.Parked, 0} {
					for _, v := range someWords() {
						x := told{words: marked(16, v)}
						x.words[12] = 1
						x.run = line.Run{Map: place.Map{N: 2}, Mode: mode, Access: api.Access{Kind: 4, Cell: 9, Old: 3}}
						x.run.Notes = []api.Note{{Task: 5, What: 6, Op: 7, Arg: 8}, {What: 99}}
						for _, a := range []uint32{v, v << 8} {
							x.run.Frame = api.Frame{Op: op, Line: n, A: a, B: 77, Wake: wake, Ret: ret}
							x.holds(t, lines)
						}
					}
				}
			}
		}
	})
}

// P16.1: of a nil memory, and of one of fewer cells, those that it has are touched alone, and what isn't there is 0.
func TestChapterOfFewerCells(t *testing.T) {
	lines := chapter(t)
	everywhere(func(op, n int) {
		for size := -1; size < 16; size++ {
			for _, mode := range append(spins(), api.Parked) {
				for _, stage := range stages() {
					for _, v := range []uint32{0, 1, w, w + 256, top} {
						x := told{}
						if size >= 0 {
							x.words = marked(size, v)
						}
						x.run = line.Run{Map: place.Map{N: 2}, Mode: mode, Task: 1}
						for _, a := range []uint32{0, 1, v, v << 8} {
							x.run.Frame = api.Frame{Op: op, Line: n, A: a, B: 3, Wait: api.Wait{Stage: stage}}
							x.holds(t, lines)
						}
					}
				}
			}
		}
	})
}
