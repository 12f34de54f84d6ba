package pq_test

import (
	"maps"
	"math"
	"slices"
	"strconv"
	"strings"
	"testing"

	"stileman/api"
	"stileman/cells"
	"stileman/diff"
	"stileman/line"
	"stileman/place"
	"stileman/pq"
)

// table are rows, by their lines.
type table map[int]string

// rows are the chapter's rows by the operation, with those of the readers' and the queue's chapters where it names these.
func rows() map[int]table {
	leave := table{
		0: "B = load phase; 1",
		2: "store phase, B + 1; 3",
	}
	try := both(trying(), giving(8, "false"), table{
		2: "A = load rin; 3",
		3: "B = load rout; if A is ahead of B by more than 0 (TryUpgrade: 256): [refuse]; 8; else 4",
		4: "B = load phase; 5",
		5: "A = add rin, P [present]; 6",
	})
	return map[int]table{
		api.RLock: {
			0: "A = add rin, 256 [reg read; admit, if A's bits are 0]; if A's bits are 0: true; else 1",
			1: "wait rin until its bits aren't A's [admit]; true",
		},
		api.RUnlock: {0: "add rout, 256 [release]; wake rout; true"},
		api.Lock: both(entering(), table{
			5: "B = load phase; 6",
			6: "A = add rin, P [present]; 7",
			7: "wait rout until it is A [admit]; true",
		}),
		api.Unlock: both(leave, giving(3, "true"), table{1: "add rin, -P [leave]; wake rin; 2"}),
		api.TryRLock: {
			0: "A = load rin; if A's bits aren't 0: [refuse]; false; else 1",
			1: "cas rin, A, A + 256: if it was that [reg read, admit]; true; else 0",
		},
		api.TryLock: both(try, table{6: "wait rout until it is A [admit]; true"}),
		api.TryUpgrade: both(try, table{
			6: "wait rout until it is A - 256 [up]; 7",
			7: "add rout, 256; true",
		}),
		api.Downgrade: both(leave, giving(3, "true"), table{1: "add rin, 256 - P [down]; wake rin; 2"}),
	}
}

// entering are the rows of entering the queue.
func entering() table {
	return table{
		0: "store next, 0; 1",
		1: "store blocked, 1; 2",
		2: "A = swap tail, T [reg write]; if A is 0: 5; else 3",
		3: "store next of A, T; wake that cell; 4",
		4: "wait blocked until it is 0; 5",
	}
}

// giving are the rows of giving the queue on, from the line a on.
func giving(a int, end string) table {
	to := func(n int) string { return strconv.Itoa(a + n) }
	return table{
		a:     "A = load next; if A isn't 0: " + to(3) + "; else " + to(1),
		a + 1: "cas tail, T, 0: if it was that [pass]; " + end + "; else " + to(2),
		a + 2: "A = wait next until it isn't 0; " + to(3),
		a + 3: "store blocked of A, 0 [pass]; wake that cell; " + end,
	}
}

// trying are the rows of a try's entering.
func trying() table {
	return table{
		0: "store next, 0; 1",
		1: "cas tail, 0, T: if it was that [reg write]; 2; else [refuse]; false",
	}
}

// both are all rows of the tables.
func both(l ...table) table {
	all := table{}
	for _, x := range l {
		maps.Copy(all, x)
	}
	return all
}

// reader reads a row, clause by clause, and does it on a run.
type reader struct {
	t      *testing.T
	r      *line.Run
	on     bool // whether clauses are done
	chosen bool // whether one of the row's cases has come
	was    bool // whether a cas found what it expected
	that   int  // the cell that was stored in
}

// cell is the cell of that name.
func (x *reader) cell(name string) int {
	of := x.r.Task
	name, others := strings.CutSuffix(name, " of A")
	if others {
		of = int(x.r.Frame.A) - 1
	}
	switch name {
	case "next":
		return x.r.Map.Next(of)
	case "blocked":
		return x.r.Map.Blocked(of)
	case "that cell":
		return x.that
	}
	c := slices.Index([]string{"rin", "rout", "tail", "phase"}, name)
	if c < 0 {
		x.t.Fatalf("no cell's name: %q", name)
	}
	return c
}

// apart are the row's clauses; what stands in brackets and parentheses is in one piece.
func apart(row string) (l []string) {
	depth := 0
	l = strings.FieldsFunc(row, func(c rune) bool {
		switch c {
		case '[', '(':
			depth++
		case ']', ')':
			depth--
		}
		return depth == 0 && (c == ';' || c == ':')
	})
	for i, s := range l {
		l[i] = strings.TrimSpace(s)
	}
	return l
}

// row does the row.
func (x *reader) row(row string) {
	x.on, x.chosen = true, false
	for _, s := range apart(row) {
		s, notes, _ := strings.Cut(strings.TrimSuffix(x.cases(s), "]"), "[")
		if x.clause(strings.TrimSpace(s)) && notes != "" {
			x.notes(notes)
		}
	}
}

// cases takes a case off the clause's begin, and lets only what is behind it be done, if it comes.
func (x *reader) cases(s string) string {
	f, least := x.r.Frame, 0
	if f.Op == api.TryUpgrade {
		least = 256
	}
	for words, comes := range map[string]bool{
		"if A is ahead of B by more than 0 (TryUpgrade: 256)": diff.Ahead(f.A, f.B) > least,
		"if A's bits are 0":    f.A%4 == 0,
		"if A's bits aren't 0": f.A%4 != 0,
		"if A is 0":            f.A == 0,
		"if A isn't 0":         f.A != 0,
		"if it was that":       x.was,
		"else ":                true,
	} {
		if rest, ok := strings.CutPrefix(s, words); ok {
			x.on = comes && !x.chosen
			x.chosen = x.chosen || comes
			return rest
		}
	}
	return s
}

// clause does a clause without its notes, and tells whether these are done with it.
func (x *reader) clause(s string) bool {
	if !x.on || s == "" {
		return x.on
	}
	r, f := x.r, &x.r.Frame
	keep := func(uint32) {}
	if rest, ok := strings.CutPrefix(s, "A = "); ok {
		s, keep = rest, func(v uint32) { f.A = v }
	} else if rest, ok := strings.CutPrefix(s, "B = "); ok {
		s, keep = rest, func(v uint32) { f.B = v }
	}
	word, rest, _ := strings.Cut(s, " ")
	l := strings.Split(rest, ", ")
	switch word {
	case "true", "false":
		r.End(word == "true")
	case "load":
		keep(r.Load(x.cell(l[0])))
	case "store":
		x.that = x.cell(l[0])
		r.Store(x.that, x.sum(l[1]))
	case "add":
		keep(r.Add(x.cell(l[0]), x.sum(l[1])))
	case "swap":
		keep(r.Swap(x.cell(l[0]), x.sum(l[1])))
	case "cas":
		x.was = r.Cas(x.cell(l[0]), x.sum(l[1]), x.sum(l[2]))
	case "wake":
		r.Wake(x.cell(l[0]))
	case "wait":
		return x.wait(rest, keep)
	default:
		r.Go(int(x.sum(s)))
	}
	return true
}

// wait does a clause that waits, and tells whether it was seen; what is behind it is done when the waiting is.
func (x *reader) wait(s string, keep func(v uint32)) bool {
	name, until, _ := strings.Cut(s, " until ")
	saw := uint32(0)
	is := func(v uint32) bool { return v == x.sum(strings.TrimPrefix(until, "it is ")) }
	switch until {
	case "its bits aren't A's":
		is = func(v uint32) bool { return v%4 != x.r.Frame.A%4 }
	case "it isn't 0":
		is = func(v uint32) bool { return v != 0 }
	}
	seen, done := x.r.Wait(x.cell(name), func(v uint32) bool {
		saw = v
		return is(v)
	})
	if seen {
		keep(saw)
	}
	x.on = done
	return seen
}

// sum is the word that s tells.
func (x *reader) sum(s string) (v uint32) {
	sign := uint32(1)
	for _, w := range strings.Fields(strings.Replace(s, "-P", "- P", 1)) {
		switch w {
		case "+":
			sign = 1
		case "-":
			sign = top
		case "A":
			v += sign * x.r.Frame.A
		case "B":
			v += sign * x.r.Frame.B
		case "P":
			v += sign * (2 + x.r.Frame.B%2)
		case "T":
			v += sign * (uint32(x.r.Task) + 1)
		default:
			n, err := strconv.Atoi(w)
			if err != nil {
				x.t.Fatalf("no number: %q", s)
			}
			v += sign * uint32(n)
		}
	}
	return v
}

// notes notes what is listed.
func (x *reader) notes(l string) {
	s, bare := strings.CutSuffix(l, ", if A's bits are 0")
	for i, s := range strings.Split(strings.ReplaceAll(s, "; ", ", "), ", ") {
		if bare && i > 0 && x.r.Frame.A%4 != 0 {
			return
		}
		what, class, _ := strings.Cut(s, " ")
		n, ok := map[string]int{
			"reg": api.NReg, "present": api.NPresent, "admit": api.NAdmit, "refuse": api.NRefuse, "release": api.NRelease,
			"leave": api.NLeave, "pass": api.NPass, "up": api.NUp, "down": api.NDown,
		}[what]
		if !ok {
			x.t.Fatalf("no note: %q", s)
		}
		x.r.Note(n, map[string]int{"read": api.HoldRead, "write": api.HoldWrite}[class])
	}
}

// chapter does the line of r's frame as the chapter's rows tell.
func chapter(t *testing.T) func(r *line.Run) {
	all := rows()
	return func(r *line.Run) {
		if row, ok := all[r.Frame.Op][r.Frame.Line]; ok {
			x := &reader{t: t, r: r}
			x.row(row)
		}
	}
}

// told is a run ahead of a step, and the words of its memory's cells; without a memory, if these are nil.
type told struct {
	run   line.Run
	words []uint32
}

// fresh makes the run with a memory of its own.
func (x told) fresh() *line.Run {
	r := x.run
	r.Notes = slices.Clone(r.Notes)
	if x.words != nil {
		r.Mem, _ = cells.From(x.words...)
	}
	return &r
}

// holds fails the test, unless the package's lines do what the chapter's rows tell, as a step, and called by themselves.
func (x told) holds(t *testing.T, rows func(r *line.Run)) {
	t.Helper()
	got, want := x.fresh(), x.fresh()
	over, wantOver := got.Step(pq.Lines), want.Step(rows)
	if over != wantOver {
		t.Fatalf("%+v: over %v, want %v", x, over, wantOver)
	}
	x.same(t, got, want)
	got, want = x.fresh(), x.fresh()
	pq.Lines(got)
	rows(want)
	x.same(t, got, want)
}

// same fails the test, if a part of the run, or a cell's word, is another one than it is to be.
func (x told) same(t *testing.T, got, want *line.Run) {
	t.Helper()
	if got.Frame != want.Frame || got.Access != want.Access || !slices.Equal(got.Notes, want.Notes) {
		t.Fatalf("%+v: %+v, %+v, %+v, want %+v, %+v, %+v", x, got.Frame, got.Access, got.Notes, want.Frame, want.Access, want.Notes)
	}
	if got.Map != want.Map || got.Mode != want.Mode || got.Task != want.Task || (got.Mem == nil) != (want.Mem == nil) {
		t.Fatalf("%+v: the run is %+v, want %+v", x, got, want)
	}
	if l, w := got.Mem.All(), want.Mem.All(); !slices.Equal(l, w) {
		t.Fatalf("%+v: the cells are %x, want %x", x, l, w)
	}
}

// marked are so many cells, each with a word of its own, but for rin, rout, tail and phase.
func marked(size int, own ...uint32) []uint32 {
	l := make([]uint32, max(size, len(own)))
	for c := range l {
		l[c] = 0xabc000 + uint32(c)
	}
	copy(l, own)
	return l[:size]
}

// size is how many cells a lock for n tasks has; of a number that no lock has some that are there all the same.
func size(n int) int {
	if n < 1 || n > api.MaxTasks {
		return 300
	}
	return 8 + 4*n
}

// everywhere calls do for each line of each operation, and for the lines beside them.
func everywhere(do func(op, n int)) {
	for op := range 10 {
		for n := -1; n <= 12; n++ {
			do(op, n)
		}
	}
}

// P14.1: each line of each operation, and those beside them, in the two modes, with all words that matter in the cells that lines use, and in A and B, among them those that go round, and both phases' bits.
func TestChapter(t *testing.T) {
	lines := chapter(t)
	words := []uint32{0, 1, 2, 3, 4, 255, 256, 257, 259, 0x502, half - 1, half, half + 1, 0xffffff00, 0xffffff02, 0xffffff03, top}
	off := []uint32{0, 1, top, 2, 255, 256, 257, 512, top - 255, half - 1, half, half + 256}
	everywhere(func(op, n int) {
		for _, v := range words {
			x := told{words: marked(20, v, v, v, v)}
			x.words[9], x.words[12] = v, v
			kept := []uint32{0, 1, 2, 3, 4}
			for _, d := range off {
				kept = append(kept, v+d)
			}
			for _, mode := range modes() {
				x.run = line.Run{Map: place.Map{N: 3}, Mode: mode, Task: 1}
				for _, a := range kept {
					for _, b := range []uint32{0, 1, 6, half, top} {
						x.run.Frame = api.Frame{Op: op, Line: n, A: a, B: b}
						x.holds(t, lines)
					}
				}
			}
		}
	})
}

// P14.1: all tasks, also those that aren't there, of all numbers of tasks, also those that no lock has, with an A that names tasks that are there, and that aren't.
func TestChapterOfTasks(t *testing.T) {
	lines := chapter(t)
	for op, l := range rows() {
		for n := range l {
			for _, of := range append(counts(), noCounts()...) {
				for _, task := range append(noTasks(of), 0, of/2, of-1) {
					for _, mode := range modes() {
						for _, tail := range []uint32{0, uint32(task) + 1, 64} {
							for _, a := range []uint32{0, 1, uint32(of), uint32(of) + 1, uint32(task) + 1, 65, 256, top} {
								x := told{words: marked(size(of), 0x300, 0x100, tail, 7)}
								x.run = line.Run{Map: place.Map{N: of}, Mode: mode, Task: task, Frame: api.Frame{Op: op, Line: n, A: a, B: 7}}
								x.holds(t, lines)
							}
						}
					}
				}
			}
		}
	}
}

// P14.1: each line from each stage of waiting, also one that is none, with a permit and without one, in all modes.
func TestChapterOfStages(t *testing.T) {
	lines := chapter(t)
	everywhere(func(op, n int) {
		for _, mode := range append(spins(), api.Parked) {
			for _, stage := range stages() {
				for _, permit := range []uint32{0, 1, top} {
					for _, v := range []uint32{0, 1, 2, 0x502} {
						x := told{words: marked(16, v, v, v, v)}
						x.words[9], x.words[11], x.words[15] = v, v, permit
						x.run = line.Run{Map: place.Map{N: 2}, Mode: mode, Task: 1}
						for _, a := range []uint32{1, v, v + 256} {
							x.run.Frame = api.Frame{Op: op, Line: n, A: a, B: 99, Wait: api.Wait{Stage: stage}}
							x.holds(t, lines)
						}
					}
				}
			}
		}
	})
}

// P14.1: a result, an access and notes that are there at the begin, and a wake-up that is on: that goes first in a step, and the line is done then.
func TestChapterOfFrames(t *testing.T) {
	lines := chapter(t)
	everywhere(func(op, n int) {
		for _, ret := range []int{0, 1, 2, 3, -1, 99} {
			for _, w := range []api.Wake{{}, {On: true, Cell: 1}, {On: true, Cell: 3, I: 1, Hit: true}, {On: true, I: 7}, {Cell: 4, I: 1}} {
				for _, mode := range []int{api.Spin, api.Parked, 0} {
					for _, v := range []uint32{0, 1, 2} {
						x := told{words: marked(16, v, v, v, v)}
						x.words[8], x.words[10] = v, v
						x.run = line.Run{Map: place.Map{N: 2}, Mode: mode, Access: api.Access{Kind: 4, Cell: 9, Old: 3}}
						x.run.Notes = []api.Note{{Task: 5, What: 6, Op: 7, Arg: 8}, {What: 99}}
						for _, a := range []uint32{2, v, v + 256} {
							x.run.Frame = api.Frame{Op: op, Line: n, A: a, B: 77, Wake: w, Ret: ret}
							x.holds(t, lines)
						}
					}
				}
			}
		}
	})
}

// P14.1: of a nil memory, and of one of fewer cells, those that it has are touched alone, and what isn't there is 0.
func TestChapterOfFewerCells(t *testing.T) {
	lines := chapter(t)
	everywhere(func(op, n int) {
		for size := -1; size <= 16; size++ {
			for _, mode := range modes() {
				for _, stage := range stages() {
					for _, a := range []uint32{0, 1, 2, 3, 256, top} {
						x := told{}
						if size >= 0 {
							x.words = marked(size, 0x102, 0x100, 2, 5)
						}
						x.run = line.Run{Map: place.Map{N: 2}, Mode: mode, Task: 1}
						x.run.Frame = api.Frame{Op: op, Line: n, A: a, B: a, Wait: api.Wait{Stage: stage}}
						x.holds(t, lines)
					}
				}
			}
		}
	})
}

// P14.1: operations and lines of all sizes.
func TestChapterOfNumbers(t *testing.T) {
	lines := chapter(t)
	for _, op := range append(numbers(), math.MinInt+api.RLock, 1<<32+api.Downgrade) {
		for _, n := range append(numbers(), math.MinInt+5, 1<<32+6) {
			for _, mode := range append(spins(), api.Parked) {
				x := told{words: marked(16, 0x100, 0x100, 2, 1), run: line.Run{Map: place.Map{N: 2}, Mode: mode, Task: 1}}
				x.run.Frame = api.Frame{Op: op, Line: n, A: 1, B: 2}
				x.holds(t, lines)
			}
		}
	}
}
