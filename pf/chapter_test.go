package pf_test

import (
	"math"
	"slices"
	"strconv"
	"strings"
	"testing"

	"stileman/api"
	"stileman/cells"
	"stileman/diff"
	"stileman/line"
	"stileman/pf"
	"stileman/place"
)

// rows are the chapter's rows as it writes them, by the operation and the line; an empty one isn't there.
func rows() map[int][]string {
	unlock := []string{
		"B = load phase; 1",
		"add rin, -P [leave]; wake rin; 2",
		"store phase, B + 1; 3",
		"add wout, 1 [pass]; wake wout; true",
	}
	try := []string{
		"A = load win; 1",
		"B = load wout; if A is ahead of B: [refuse]; false; if B is ahead of A: 0; else 2",
		"cas win, A, A + 1: if it was A [reg write]; 3; else 0",
		"A = load rin; 4",
		"B = load rout; if A is ahead of B by more than 0 (TryUpgrade: 256): [refuse]; 9; else 5",
		"B = load phase; 6",
		"A = add rin, P [present]; 7",
	}
	giveUp := "add wout, 1 [pass]; wake wout; false"
	return map[int][]string{
		api.RLock: {
			"A = add rin, 256 [reg read; admit, if A's bits are 0]; if A's bits are 0: true; else 1",
			"wait rin until its bits aren't A's [admit]; true",
		},
		api.RUnlock: {
			"add rout, 256 [release]; wake rout; true",
		},
		api.Lock: {
			"A = add win, 1 [reg write]; 1",
			"wait wout until it is A; 2",
			"B = load phase; 3",
			"A = add rin, P [present]; 4",
			"wait rout until it is A [admit]; true",
		},
		api.Unlock: unlock,
		api.TryRLock: {
			"A = load rin; if A's bits aren't 0: [refuse]; false; else 1",
			"cas rin, A, A + 256: if it was A [reg read, admit]; true; else 0",
		},
		api.TryLock: slices.Concat(try, []string{
			"wait rout until it is A [admit]; true",
			"",
			giveUp,
		}),
		api.TryUpgrade: slices.Concat(try, []string{
			"wait rout until it is A - 256 [up]; 8",
			"add rout, 256; true",
			giveUp,
		}),
		api.Downgrade: slices.Concat([]string{
			"B = load phase; 1",
			"add rin, 256 - P [down]; wake rin; 2",
		}, unlock[2:]),
	}
}

// reader reads a row, clause by clause, and does it on a run.
type reader struct {
	t      *testing.T
	r      *line.Run
	on     bool // whether clauses are done
	chosen bool // whether one of the row's cases has come
	was    bool // whether a cas found what it expected
}

// cell is the cell of that name.
func (x *reader) cell(name string) int {
	c := slices.Index([]string{"rin", "rout", "win", "wout", "phase"}, name)
	if c < 0 {
		x.t.Fatalf("no cell's name: %q", name)
	}
	return c
}

// apart are the row's clauses; what stands in brackets and parentheses is in one piece.
func apart(row string) (l []string) {
	depth, from := 0, 0
	for i, c := range row {
		switch {
		case c == '[' || c == '(':
			depth++
		case c == ']' || c == ')':
			depth--
		case (c == ';' || c == ':') && depth == 0:
			l = append(l, row[from:i])
			from = i + 1
		}
	}
	l = append(l, row[from:])
	for i, s := range l {
		l[i] = strings.TrimSpace(s)
	}
	return l
}

// row does the row.
func (x *reader) row(row string) {
	x.on, x.chosen = true, false
	for _, s := range apart(row) {
		s = x.cases(s)
		s, notes, _ := strings.Cut(strings.TrimSuffix(s, "]"), "[")
		noted := x.clause(strings.TrimSpace(s))
		if notes != "" && noted {
			x.notes(notes)
		}
	}
}

// cases takes a case off the clause's begin, and lets only what is behind it be done, if it comes.
func (x *reader) cases(s string) string {
	ahead := diff.Ahead(x.r.Frame.A, x.r.Frame.B)
	least := 0
	if x.r.Frame.Op == api.TryUpgrade {
		least = 256
	}
	for _, c := range []struct {
		words string
		comes bool
	}{
		{"if A is ahead of B by more than 0 (TryUpgrade: 256)", ahead > least},
		{"if A is ahead of B", ahead > 0},
		{"if B is ahead of A", ahead < 0},
		{"if A's bits are 0", x.bits() == 0},
		{"if A's bits aren't 0", x.bits() != 0},
		{"if it was A", x.was},
		{"else ", true},
	} {
		if rest, ok := strings.CutPrefix(s, c.words); ok {
			x.on = c.comes && !x.chosen
			x.chosen = x.chosen || c.comes
			return rest
		}
	}
	return s
}

// bits are A's bits.
func (x *reader) bits() uint32 {
	return x.r.Frame.A % 4
}

// clause does a clause without its notes, and tells whether these are done with it.
func (x *reader) clause(s string) bool {
	if !x.on || s == "" {
		return x.on
	}
	r, f := x.r, &x.r.Frame
	keep := func(uint32) {}
	if rest, ok := strings.CutPrefix(s, "A = "); ok {
		s, keep = rest, func(v uint32) { f.A = v }
	} else if rest, ok := strings.CutPrefix(s, "B = "); ok {
		s, keep = rest, func(v uint32) { f.B = v }
	}
	word, rest, _ := strings.Cut(s, " ")
	l := strings.Split(rest, ", ")
	switch word {
	case "true", "false":
		r.End(word == "true")
	case "load":
		keep(r.Load(x.cell(l[0])))
	case "store":
		r.Store(x.cell(l[0]), x.sum(l[1]))
	case "add":
		keep(r.Add(x.cell(l[0]), x.sum(l[1])))
	case "cas":
		x.was = r.Cas(x.cell(l[0]), x.sum(l[1]), x.sum(l[2]))
	case "wake":
		r.Wake(x.cell(l[0]))
	case "wait":
		return x.wait(rest)
	default:
		r.Go(int(x.sum(s)))
	}
	return true
}

// wait does a clause that waits, and tells whether it was seen; what is behind it is done when the waiting is.
func (x *reader) wait(s string) bool {
	name, until, _ := strings.Cut(s, " until ")
	is := func(v uint32) bool { return v%4 != x.bits() }
	if until != "its bits aren't A's" {
		a := x.sum(strings.TrimPrefix(until, "it is "))
		is = func(v uint32) bool { return v == a }
	}
	seen, done := x.r.Wait(x.cell(name), is)
	x.on = done
	return seen
}

// sum is the word that s tells.
func (x *reader) sum(s string) (v uint32) {
	sign := uint32(1)
	for _, w := range strings.Fields(strings.Replace(s, "-P", "- P", 1)) {
		switch w {
		case "+":
			sign = 1
		case "-":
			sign = top
		case "A":
			v += sign * x.r.Frame.A
		case "B":
			v += sign * x.r.Frame.B
		case "P":
			v += sign * (2 + x.r.Frame.B%2)
		default:
			n, err := strconv.Atoi(w)
			if err != nil {
				x.t.Fatalf("no number: %q", s)
			}
			v += sign * uint32(n)
		}
	}
	return v
}

// notes notes what is listed.
func (x *reader) notes(l string) {
	s, bare := strings.CutSuffix(l, ", if A's bits are 0")
	for i, s := range strings.Split(strings.ReplaceAll(s, "; ", ", "), ", ") {
		if bare && i > 0 && x.bits() != 0 {
			return
		}
		what, of, _ := strings.Cut(s, " ")
		n, ok := map[string]int{
			"reg": api.NReg, "present": api.NPresent, "admit": api.NAdmit, "refuse": api.NRefuse, "release": api.NRelease,
			"leave": api.NLeave, "pass": api.NPass, "up": api.NUp, "down": api.NDown,
		}[what]
		if !ok {
			x.t.Fatalf("no note: %q", s)
		}
		x.r.Note(n, map[string]int{"read": api.HoldRead, "write": api.HoldWrite}[of])
	}
}

// chapter does the line of r's frame as the chapter's rows tell.
func chapter(t *testing.T) func(r *line.Run) {
	all := rows()
	return func(r *line.Run) {
		l := all[r.Frame.Op]
		if n := r.Frame.Line; n >= 0 && n < len(l) && l[n] != "" {
			x := &reader{t: t, r: r}
			x.row(l[n])
		}
	}
}

// told is a run ahead of a step, and the words of its memory's cells; without a memory, if these are nil.
type told struct {
	run   line.Run
	words []uint32
}

// fresh makes the run with a memory of its own.
func (x told) fresh() *line.Run {
	r := x.run
	r.Notes = slices.Clone(r.Notes)
	if x.words != nil {
		r.Mem, _ = cells.From(x.words...)
	}
	return &r
}

// holds fails the test, unless the package's lines do what the chapter's rows tell, as a step, and called by themselves.
func (x told) holds(t *testing.T, rows func(r *line.Run)) {
	t.Helper()
	got, want := x.fresh(), x.fresh()
	over, wantOver := got.Step(pf.Lines), want.Step(rows)
	if over != wantOver {
		t.Fatalf("%+v: over %v, want %v", x, over, wantOver)
	}
	x.same(t, got, want)
	got, want = x.fresh(), x.fresh()
	pf.Lines(got)
	rows(want)
	x.same(t, got, want)
}

// same fails the test, if a part of the run, or a cell's word, is another one than it is to be.
func (x told) same(t *testing.T, got, want *line.Run) {
	t.Helper()
	if got.Frame != want.Frame || got.Access != want.Access || !slices.Equal(got.Notes, want.Notes) {
		t.Fatalf("%+v: %+v, %+v, %+v, want %+v, %+v, %+v", x, got.Frame, got.Access, got.Notes, want.Frame, want.Access, want.Notes)
	}
	if got.Map != want.Map || got.Mode != want.Mode || got.Task != want.Task || (got.Mem == nil) != (want.Mem == nil) {
		t.Fatalf("%+v: the run is %+v, want %+v", x, got, want)
	}
	if l, w := got.Mem.All(), want.Mem.All(); !slices.Equal(l, w) {
		t.Fatalf("%+v: the cells are %x, want %x", x, l, w)
	}
}

// marked are the words of all cells of a lock for n tasks, or of so many cells, each with a word of its own, but for the lock's own ones.
func marked(size int, w own) []uint32 {
	l := make([]uint32, max(size, owned))
	for c := range l {
		l[c] = 0xabc000 + uint32(c)
	}
	copy(l, w[:])
	return l[:size]
}

// size is how many cells a lock for n tasks has; of a number that no lock has some that are there all the same.
func size(n int) int {
	if n < 1 || n > api.MaxTasks {
		return 300
	}
	return 8 + 4*n
}

// P11.1: each line of each operation, also those that aren't there, in all modes, with words in A, B and the cells that are ahead of each other by all that matters, and have all bits, wherever tickets and phases began to count.
func TestChapter(t *testing.T) {
	lines := chapter(t)
	off := []uint32{0, 1, 2, 3, 255, 256, 257, 258, 259, 512, 1 << 31, 1<<31 + 1, 1<<31 - 1, top - 255, top}
	for op, l := range rows() {
		for n := range len(l) + 1 {
			for _, base := range append(bases(), 0xffffff00) {
				for _, a := range off {
					for _, b := range off {
						for _, mode := range modes() {
							x := told{words: marked(16, own{base + a, base + b, base + a, base + b, base ^ b})}
							x.run = line.Run{Map: place.Map{N: 2}, Mode: mode, Task: 1}
							for _, kept := range []uint32{base + a, base + b, base + a - 256, base + b + 256, base ^ a} {
								x.run.Frame = api.Frame{Op: op, Line: n, A: kept, B: a ^ b}
								x.holds(t, lines)
							}
						}
					}
				}
			}
		}
	}
}

// P11.1: each line, from each stage of waiting, also one that is none, with permits, watches and wake-ups, of all tasks and numbers of tasks.
func TestChapterOfTasks(t *testing.T) {
	lines := chapter(t)
	for op, l := range rows() {
		for n := range l {
			for _, of := range append(counts(), 0, -1, 65, 1<<32, math.MinInt) {
				for _, task := range append(noTasks(of), 0, of/2, of-1) {
					x := told{words: marked(size(of), own{0x402, 0x400, 5, 4, 3})}
					for _, mode := range []int{api.Spin, 0, 3, api.Parked} {
						x.run = line.Run{Map: place.Map{N: of}, Mode: mode, Task: task}
						l := []int{0, 1, 3, 99}
						if mode == api.Parked {
							l = stages()
						}
						for _, stage := range l {
							for _, a := range []uint32{4, 0x400, 0x402, 0x500} {
								x.run.Frame = api.Frame{Op: op, Line: n, A: a, B: 9, Wait: api.Wait{Stage: stage}}
								x.holds(t, lines)
							}
						}
					}
				}
			}
		}
	}
}

// P11.1: a result, an access and notes that are there at the begin, and a wake-up that is on: that goes first in a step, and the line is done then.
func TestChapterOfFrames(t *testing.T) {
	lines := chapter(t)
	for op, l := range rows() {
		for n := range l {
			for _, ret := range []int{0, 1, 2, 3, -1, 99} {
				for _, w := range []api.Wake{{}, {On: true, Cell: 1}, {On: true, Cell: 3, I: 1, Hit: true}, {On: true, I: 7}, {Cell: 4, I: 1}} {
					for _, mode := range []int{api.Spin, api.Parked, 0} {
						x := told{words: marked(16, own{0x800, 0x800, 8, 8, 8})}
						x.run = line.Run{Map: place.Map{N: 2}, Mode: mode, Access: api.Access{Kind: 4, Cell: 9, Old: 3}}
						x.run.Notes = []api.Note{{Task: 5, What: 6, Op: 7, Arg: 8}, {What: 99}}
						for _, a := range []uint32{7, 8, 9, 0x700, 0x800, 0x802, 0x900, 0x901} {
							x.run.Frame = api.Frame{Op: op, Line: n, A: a, B: 77, Wake: w, Ret: ret}
							x.holds(t, lines)
						}
					}
				}
			}
		}
	}
}

// P11.1: of a nil memory, and of one of fewer cells, those that it has are touched alone, and what isn't there is 0.
func TestChapterOfFewerCells(t *testing.T) {
	lines := chapter(t)
	for op, l := range rows() {
		for n := range l {
			for _, size := range []int{-1, 0, 1, 2, 3, 4, 5, 8, 11, 12, 13, 14, 15} {
				for _, mode := range modes() {
					for _, stage := range stages() {
						for _, a := range []uint32{0, 1, 2, 5, 256, 512, top} {
							x := told{}
							if size >= 0 {
								x.words = marked(size, own{0x100, 0x100, 5, 5, 5})
							}
							x.run = line.Run{Map: place.Map{N: 2}, Mode: mode, Task: 1}
							x.run.Frame = api.Frame{Op: op, Line: n, A: a, B: a, Wait: api.Wait{Stage: stage}}
							x.holds(t, lines)
						}
					}
				}
			}
		}
	}
}
