package tf_test

import (
	"slices"
	"strconv"
	"strings"
	"testing"

	"stileman/api"
	"stileman/cells"
	"stileman/diff"
	"stileman/line"
	"stileman/place"
	"stileman/tf"
)

// rows are the chapter's rows as it writes them, by the operation and the line.
func rows() map[int][]string {
	look := "A = load users; 1"
	return map[int][]string{
		api.RLock: {
			"A = add users, 1 [reg read]; 1",
			"wait reads until it is A; 2",
			"add reads, 1 [admit]; wake reads; true",
		},
		api.RUnlock: {
			"add writes, 1 [release]; wake writes; true",
		},
		api.Lock: {
			"A = add users, 1 [reg write]; 1",
			"wait writes until it is A [admit]; true",
		},
		api.Unlock: {
			"add reads, 1 [leave]; wake reads; 1",
			"add writes, 1 [pass]; wake writes; true",
		},
		api.TryRLock: {
			look,
			"B = load reads; if A is ahead of B: [refuse]; false; if B is ahead of A: 0; else 2",
			"cas users, A, A + 1: if it was A [reg read]; 3; else 0",
			"add reads, 1 [admit]; wake reads; true",
		},
		api.TryLock: {
			look,
			"B = load writes; if A is ahead of B: [refuse]; false; if B is ahead of A: 0; else 2",
			"cas users, A, A + 1: if it was A [reg write, admit]; true; else 0",
		},
		api.TryUpgrade: {
			look,
			"B = load writes; if A is ahead of B by more than 1: [refuse]; false; by less: 0; by 1: 2",
			"cas users, A, A + 1: if it was A [up]; 3; else 0",
			"add writes, 1; true",
		},
		api.Downgrade: {
			"add reads, 1 [down]; wake reads; true",
		},
	}
}

// reader reads a row, clause by clause, and does it on a run.
type reader struct {
	t      *testing.T
	r      *line.Run
	on     bool // whether clauses are done
	chosen bool // whether one of the row's cases has come
	was    bool // whether a cas found what it expected
}

// cell is the cell of that name.
func (x *reader) cell(name string) int {
	c := slices.Index([]string{"users", "reads", "writes"}, name)
	if c < 0 {
		x.t.Fatalf("no cell's name: %q", name)
	}
	return c
}

// row does the row.
func (x *reader) row(row string) {
	x.on, x.chosen = true, false
	for _, s := range strings.Split(strings.ReplaceAll(row, ": ", "; "), "; ") {
		s = x.cases(s)
		s, notes, _ := strings.Cut(strings.TrimSuffix(s, "]"), "[")
		noted := x.clause(strings.TrimSpace(s))
		if notes != "" && noted {
			x.notes(notes)
		}
	}
}

// cases takes a case off the clause's begin, and lets only what is behind it be done, if it comes.
func (x *reader) cases(s string) string {
	ahead := diff.Ahead(x.r.Frame.A, x.r.Frame.B)
	for _, c := range []struct {
		words string
		comes bool
	}{
		{"if A is ahead of B by more than 1", ahead > 1},
		{"if A is ahead of B", ahead > 0},
		{"if B is ahead of A", ahead < 0},
		{"by less", ahead < 1},
		{"by 1", ahead == 1},
		{"if it was A", x.was},
		{"else ", true},
	} {
		if rest, ok := strings.CutPrefix(s, c.words); ok {
			x.on = c.comes && !x.chosen
			x.chosen = x.chosen || c.comes
			return rest
		}
	}
	return s
}

// clause does a clause without its notes, and tells whether these are done with it.
func (x *reader) clause(s string) bool {
	if !x.on || s == "" {
		return x.on
	}
	r, f := x.r, &x.r.Frame
	keep := func(uint32) {}
	if rest, ok := strings.CutPrefix(s, "A = "); ok {
		s, keep = rest, func(v uint32) { f.A = v }
	} else if rest, ok := strings.CutPrefix(s, "B = "); ok {
		s, keep = rest, func(v uint32) { f.B = v }
	}
	words := strings.Fields(strings.ReplaceAll(s, ",", ""))
	switch words[0] {
	case "true", "false":
		r.End(words[0] == "true")
	case "load":
		keep(r.Load(x.cell(words[1])))
	case "add":
		keep(r.Add(x.cell(words[1]), uint32(x.number(words[2]))))
	case "cas":
		x.was = r.Cas(x.cell(words[1]), f.A, f.A+1)
	case "wake":
		r.Wake(x.cell(words[1]))
	case "wait":
		seen, done := r.Wait(x.cell(words[1]), func(v uint32) bool { return v == f.A })
		x.on = done
		return seen
	default:
		r.Go(x.number(words[0]))
	}
	return true
}

// notes notes what is listed.
func (x *reader) notes(l string) {
	for _, s := range strings.Split(l, ", ") {
		what, of, _ := strings.Cut(s, " ")
		n, ok := map[string]int{
			"reg": api.NReg, "admit": api.NAdmit, "refuse": api.NRefuse, "release": api.NRelease,
			"leave": api.NLeave, "pass": api.NPass, "up": api.NUp, "down": api.NDown,
		}[what]
		if !ok {
			x.t.Fatalf("no note: %q", s)
		}
		x.r.Note(n, map[string]int{"read": api.HoldRead, "write": api.HoldWrite}[of])
	}
}

// number is the number that s tells.
func (x *reader) number(s string) int {
	n, err := strconv.Atoi(s)
	if err != nil {
		x.t.Fatalf("no number: %q", s)
	}
	return n
}

// chapter does the line of r's frame as the chapter's rows tell.
func chapter(t *testing.T) func(r *line.Run) {
	all := rows()
	return func(r *line.Run) {
		l := all[r.Frame.Op]
		if n := r.Frame.Line; n >= 0 && n < len(l) {
			x := &reader{t: t, r: r}
			x.row(l[n])
		}
	}
}

// told is a run ahead of a step, and the words of its memory's cells; without a memory, if these are nil.
type told struct {
	run   line.Run
	words []uint32
}

// fresh makes the run with a memory of its own.
func (x told) fresh() *line.Run {
	r := x.run
	r.Notes = slices.Clone(r.Notes)
	if x.words != nil {
		r.Mem, _ = cells.From(x.words...)
	}
	return &r
}

// holds fails the test, unless the package's lines do what the chapter's rows tell, as a step, and called by themselves.
func (x told) holds(t *testing.T, rows func(r *line.Run)) {
	t.Helper()
	got, want := x.fresh(), x.fresh()
	over, wantOver := got.Step(tf.Lines), want.Step(rows)
	if over != wantOver {
		t.Fatalf("%+v: over %v, want %v", x, over, wantOver)
	}
	x.same(t, got, want)
	got, want = x.fresh(), x.fresh()
	tf.Lines(got)
	rows(want)
	x.same(t, got, want)
}

// same fails the test, if a part of the run, or a cell's word, is another one than it is to be.
func (x told) same(t *testing.T, got, want *line.Run) {
	t.Helper()
	if got.Frame != want.Frame || got.Access != want.Access || !slices.Equal(got.Notes, want.Notes) {
		t.Fatalf("%+v: %+v, %+v, %+v, want %+v, %+v, %+v", x, got.Frame, got.Access, got.Notes, want.Frame, want.Access, want.Notes)
	}
	if got.Map != want.Map || got.Mode != want.Mode || got.Task != want.Task || (got.Mem == nil) != (want.Mem == nil) {
		t.Fatalf("%+v: the run is %+v, want %+v", x, got, want)
	}
	if l, w := got.Mem.All(), want.Mem.All(); !slices.Equal(l, w) {
		t.Fatalf("%+v: the cells are %x, want %x", x, l, w)
	}
}

// marked are the words of all cells of a lock for n tasks, or of so many cells, each with a word of its own, but for the lock's own three.
func marked(size int, users, reads, writes uint32) []uint32 {
	l := make([]uint32, max(size, 3))
	for c := range l {
		l[c] = 0xabc000 + uint32(c)
	}
	l[0], l[1], l[2] = users, reads, writes
	return l[:size]
}

// size is how many cells a lock for n tasks has; of a number that no lock has some that are there all the same.
func size(n int) int {
	if n < 1 || n > api.MaxTasks {
		return 300
	}
	return 8 + 4*n
}

// P10.1: each line of each operation, in all modes, with words in A, B and the cells that are ahead of each other by all that matters, wherever tickets began to count.
func TestChapter(t *testing.T) {
	lines := chapter(t)
	off := []uint32{0, 1, 2, 3, 1 << 31, 1<<31 + 1, 1<<31 - 1, top - 1, top}
	for op, l := range rows() {
		for n := range l {
			for _, base := range bases() {
				for _, a := range off {
					for _, b := range off {
						for _, mode := range modes() {
							x := told{words: marked(16, base+a, base+b, base+a-b)}
							x.run = line.Run{Map: place.Map{N: 2}, Mode: mode, Task: 1}
							for _, kept := range []uint32{base, base + a, base + 1, base + b} {
								x.run.Frame = api.Frame{Op: op, Line: n, A: kept, B: a ^ b}
								x.holds(t, lines)
							}
						}
					}
				}
			}
		}
	}
}

// P10.1: each line, from each stage of waiting, also one that is none, with permits, watches and wake-ups, of all tasks and numbers of tasks.
func TestChapterOfTasks(t *testing.T) {
	lines := chapter(t)
	for op, l := range rows() {
		for n := range l {
			for _, of := range append(counts(), noCounts()...) {
				for _, task := range append(noTasks(of), 0, of/2, of-1) {
					for _, mode := range append(spins(), api.Parked) {
						x := told{words: marked(size(of), 5, 4, 4)}
						x.run = line.Run{Map: place.Map{N: of}, Mode: mode, Task: task}
						for _, stage := range stages() {
							x.run.Frame = api.Frame{Op: op, Line: n, A: 4, B: 9, Wait: api.Wait{Stage: stage}}
							x.holds(t, lines)
						}
					}
				}
			}
		}
	}
}

// P10.1: a result, an access and notes that are there at the begin, and a wake-up that is on: that goes first in a step, and the line is done then.
func TestChapterOfFrames(t *testing.T) {
	lines := chapter(t)
	for op, l := range rows() {
		for n := range l {
			for _, ret := range []int{0, 1, 2, 3, -1, 99} {
				for _, w := range []api.Wake{{}, {On: true, Cell: 1}, {On: true, Cell: 2, I: 1, Hit: true}, {On: true, I: 7}, {Cell: 4, I: 1}} {
					for _, mode := range []int{api.Spin, api.Parked, 0} {
						x := told{words: marked(16, 8, 8, 8)}
						x.run = line.Run{Map: place.Map{N: 2}, Mode: mode, Access: api.Access{Kind: 4, Cell: 9, Old: 3}}
						x.run.Notes = []api.Note{{Task: 5, What: 6, Op: 7, Arg: 8}, {What: 99}}
						for _, a := range []uint32{7, 8, 9} {
							x.run.Frame = api.Frame{Op: op, Line: n, A: a, B: 77, Wake: w, Ret: ret}
							x.holds(t, lines)
						}
					}
				}
			}
		}
	}
}

// P10.1: of a nil memory, and of one of fewer cells, those that it has are touched alone, and what isn't there is 0.
func TestChapterOfFewerCells(t *testing.T) {
	lines := chapter(t)
	for op, l := range rows() {
		for n := range l {
			for _, size := range []int{-1, 0, 1, 2, 3, 8, 11, 12, 13, 14, 15} {
				for _, mode := range modes() {
					for _, stage := range stages() {
						for _, a := range []uint32{0, 1, 5, top} {
							x := told{}
							if size >= 0 {
								x.words = marked(size, 5, 5, 5)
							}
							x.run = line.Run{Map: place.Map{N: 2}, Mode: mode, Task: 1}
							x.run.Frame = api.Frame{Op: op, Line: n, A: a, Wait: api.Wait{Stage: stage}}
							x.holds(t, lines)
						}
					}
				}
			}
		}
	}
}
