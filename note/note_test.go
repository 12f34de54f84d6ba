package note_test

import (
	"fmt"
	"math"
	"regexp"
	"slices"
	"strings"
	"testing"

	"stileman/api"
	"stileman/note"
)

// operations are all operations with their words, by their numbers.
func operations() map[int]string {
	return map[int]string{
		api.RLock: "rlock", api.RUnlock: "runlock", api.Lock: "lock", api.Unlock: "unlock",
		api.TryRLock: "tryrlock", api.TryLock: "trylock", api.TryUpgrade: "upgrade", api.Downgrade: "downgrade",
	}
}

// plain are the Whats that tell nothing besides, with their words.
func plain() map[int]string {
	return map[int]string{
		api.NPresent: "present", api.NAdmit: "admit", api.NRefuse: "refuse", api.NRelease: "release",
		api.NLeave: "leave", api.NPass: "pass", api.NUp: "up", api.NDown: "down",
	}
}

// told is each right note of the task with its text, in another way than the package does.
func told(task int) map[api.Note]string {
	m := map[api.Note]string{
		{Task: task, What: api.NReg, Arg: api.HoldRead}:  fmt.Sprint(task, " reg read"),
		{Task: task, What: api.NReg, Arg: api.HoldWrite}: fmt.Sprint(task, " reg write"),
	}
	for what, w := range plain() {
		m[api.Note{Task: task, What: what}] = fmt.Sprintf("%d %s", task, w)
	}
	for op, w := range operations() {
		m[api.Note{Task: task, What: api.NCall, Op: op}] = fmt.Sprintf("%d call %s", task, w)
		for ret, r := range map[int]string{api.RetFalse: "false", api.RetTrue: "true", api.RetMisuse: "misuse"} {
			m[api.Note{Task: task, What: api.NReturn, Op: op, Arg: ret}] = fmt.Sprintf("%d return %s %s", task, w, r)
		}
	}
	return m
}

// texts are all texts of right notes, and no other ones.
var texts = regexp.MustCompile(`\A(?:[0-9]|[1-5][0-9]|6[0-3]) (?:present|admit|refuse|release|leave|pass|up|down|reg (?:read|write)|call ` + ops + `|return ` + ops + ` (?:false|true|misuse))\z`)

const ops = `(?:rlock|runlock|lock|unlock|tryrlock|trylock|upgrade|downgrade)`

// far are numbers that are none of anything, some of which would be, if they were cut to fewer bits.
func far() []int {
	return []int{-1, -2, -11, -64, 64, 65, 100, 255, 256, 257, 1<<16 + 1, 1 << 31, 1 << 32, 1<<32 + 1, 1<<32 + 2, 1<<32 + 11, -1 << 32, 1 - 1<<32, math.MinInt32, math.MinInt, math.MinInt + 1, math.MaxInt - 1, math.MaxInt}
}

// isRight fails the test, unless n is right, has that text, and is what the text is parsed to.
func isRight(t *testing.T, n api.Note, text string) {
	t.Helper()
	if !note.Right(n) {
		t.Errorf("%+v isn't right", n)
	}
	if got := note.Text(n); got != text {
		t.Errorf("the text of %+v is %q, want %q", n, got, text)
	}
	if m, e := note.Parse(text); m != n || e != api.OK {
		t.Errorf("Parse(%q): %+v, %v, want %+v", text, m, e, n)
	}
}

// isWrong fails the test, if n is right or has a text.
func isWrong(t *testing.T, n api.Note) {
	t.Helper()
	if note.Right(n) {
		t.Errorf("%+v is right", n)
	}
	if got := note.Text(n); got != "" {
		t.Errorf("the text of %+v is %q", n, got)
	}
}

// noText fails the test, if s is parsed to anything.
func noText(t *testing.T, s string) {
	t.Helper()
	if n, e := note.Parse(s); n != (api.Note{}) || e != api.ErrForm {
		t.Errorf("Parse(%q): %+v, %v", s, n, e)
	}
}

// P5.1: each operation's word, and its number.
func TestOperations(t *testing.T) {
	for op, w := range operations() {
		if got := note.Op(op); got != w {
			t.Errorf("Op(%d): %q, want %q", op, got, w)
		}
		if got := note.Number(w); got != op {
			t.Errorf("Number(%q): %d, want %d", w, got, op)
		}
	}
}

// P5.1: a number that is no operation has no word.
func TestNoOperation(t *testing.T) {
	for _, op := range append(far(), api.Rest, 9, 10, 11, 12) {
		if got := note.Op(op); got != "" {
			t.Errorf("Op(%d): %q", op, got)
		}
	}
}

// P5.1: a word that is none of an operation has the number 0.
func TestNoWord(t *testing.T) {
	l := []string{
		"", " ", "rest", "none", "rloc", "rlocks", "rlock ", " rlock", "rlock rlock", "Rlock", "RLock", "RLOCK", "LOCK", "Trylock", "r lock",
		"try", "tryupgrade", "TryUpgrade", "trydowngrade", "up", "down", "call", "return", "reg", "read", "write", "true", "false", "misuse",
		"1", "8", "0", "lock\x00", "\x00lock", "lock\n", "lo\xffck", "\xff", "\u217cock", "lock\u00a0", strings.Repeat("lock", 1<<14), strings.Repeat(" ", 1<<16),
	}
	for _, w := range operations() {
		l = append(l, w[1:]+w[:1], w[:len(w)-1], w+"x", w+" ", " "+w, strings.ToUpper(w), strings.ToUpper(w[:1])+w[1:], w+w)
	}
	for _, w := range l {
		if got := note.Number(w); got != 0 {
			t.Errorf("Number(%q): %d", w, got)
		}
	}
}

// P5.1: texts, at the edges.
func TestText(t *testing.T) {
	for _, x := range []struct {
		n    api.Note
		text string
	}{
		{api.Note{Task: 3, What: api.NReturn, Op: api.TryLock, Arg: api.RetFalse}, "3 return trylock false"},
		{api.Note{What: api.NCall, Op: api.RLock}, "0 call rlock"},
		{api.Note{Task: 63, What: api.NCall, Op: api.Downgrade}, "63 call downgrade"},
		{api.Note{What: api.NReg, Arg: api.HoldRead}, "0 reg read"},
		{api.Note{Task: 63, What: api.NReg, Arg: api.HoldWrite}, "63 reg write"},
		{api.Note{Task: 9, What: api.NPresent}, "9 present"},
		{api.Note{Task: 10, What: api.NAdmit}, "10 admit"},
		{api.Note{Task: 1, What: api.NRefuse}, "1 refuse"},
		{api.Note{Task: 2, What: api.NRelease}, "2 release"},
		{api.Note{Task: 4, What: api.NLeave}, "4 leave"},
		{api.Note{Task: 5, What: api.NPass}, "5 pass"},
		{api.Note{Task: 6, What: api.NUp}, "6 up"},
		{api.Note{Task: 7, What: api.NDown}, "7 down"},
		{api.Note{What: api.NReturn, Op: api.RLock, Arg: api.RetTrue}, "0 return rlock true"},
		{api.Note{Task: 63, What: api.NReturn, Op: api.TryUpgrade, Arg: api.RetMisuse}, "63 return upgrade misuse"},
	} {
		isRight(t, x.n, x.text)
	}
}

// P5.1: all right notes of all tasks, no two of them with one text.
func TestAllRight(t *testing.T) {
	seen := map[string]bool{}
	for task := range api.MaxTasks {
		for n, text := range told(task) {
			isRight(t, n, text)
			seen[text] = true
		}
	}
	if len(seen) != 42*api.MaxTasks {
		t.Errorf("%d texts", len(seen))
	}
}

// P5.1: of all parts near those of right notes, just the right ones are.
func TestAllNear(t *testing.T) {
	for task := -2; task <= 66; task++ {
		m := told(task)
		for what := -2; what <= 14; what++ {
			for op := -2; op <= 11; op++ {
				for arg := -2; arg <= 12; arg++ {
					n := api.Note{Task: task, What: what, Op: op, Arg: arg}
					if text, ok := m[n]; ok && 0 <= task && task <= 63 {
						isRight(t, n, text)
					} else {
						isWrong(t, n)
					}
				}
			}
		}
	}
}

// P5.1: a part that is far beyond what it may be makes a note wrong.
func TestWrongParts(t *testing.T) {
	isWrong(t, api.Note{})
	for n := range told(5) {
		for _, x := range far() {
			isWrong(t, api.Note{Task: x, What: n.What, Op: n.Op, Arg: n.Arg})
			isWrong(t, api.Note{Task: n.Task, What: x, Op: n.Op, Arg: n.Arg})
			isWrong(t, api.Note{Task: n.Task, What: n.What, Op: x, Arg: n.Arg})
			isWrong(t, api.Note{Task: n.Task, What: n.What, Op: n.Op, Arg: x})
		}
	}
}

// P5.1: texts that are wrong, by what is wrong with them.
func TestParseWrong(t *testing.T) {
	for what, l := range map[string][]string{
		"cut short":      {"", "0", "0 ", "0 cal", "0 call", "0 call ", "0 call rloc", "3 re", "3 reg", "3 reg ", "3 reg rea", "3 return", "3 return ", "3 return trylock", "3 return trylock ", "3 return trylock fals", "3 u", "3 dow"},
		"a part missing": {"up", "call rlock", "0 rlock", "reg read", "0 read", "return lock true", "0 lock true", "0 return true", "0 return lock", "3 true", "3 return misuse"},
		"a part more":    {"0 up rlock", "0 up up", "0 0 up", "0 up 0", "0 up read", "0 up true", "0 call rlock rlock", "0 call rlock true", "0 call call rlock", "0 reg read read", "0 reg read write", "0 reg rlock read", "0 return lock true true", "0 return lock lock true", "0 return lock false true", "0 return return lock true", "0 present write", "0 down downgrade true"},
		"another's part": {"0 call read", "0 call true", "0 call up", "0 call call", "0 reg rlock", "0 reg true", "0 reg 1", "0 return lock read", "0 return lock lock", "0 return true lock", "0 return read true", "0 return lock none", "0 return lock 2", "up 0", "rlock 0", "0 rlock call"},
		"blanks":         {" ", "  ", "      ", " 0 up", "0  up", "0 up ", "0up", "  0 up", "0 up  ", "0 call  rlock", "0 call rlock ", " 0 call rlock", "0 callrlock", "0call rlock", "0 reg  read", "0 regread", "0 return  lock true", "0 return lock  true", "0 return lock true ", "0 returnlock true", "0 return locktrue", "0\tup", "0 up\n", "0 up\r\n", "\n0 up", "0\u00a0up", "0 call\trlock", "0 return lock\ntrue", "0 reg read\t"},
		"words":          {"0 jump", "0 call jump", "0 call rest", "0 call tryupgrade", "0 call upgraded", "0 reg none", "0 reg reads", "0 registered read", "0 returns lock true", "0 return jump true", "0 return rest true", "0 return lock yes", "0 return lock ok", "0 return lock misused", "0 presen", "0 presents", "0 passes", "0 ups", "0 9", "0 1 1", "0 none", "a up", "task up", "0 call 1"},
		"letters' case":  {"0 Up", "0 UP", "0 uP", "0 Call rlock", "0 call Rlock", "0 call RLock", "0 CALL RLOCK", "0 reg Read", "0 Reg read", "0 reg WRITE", "0 return lock True", "0 return Lock true", "0 Return lock true", "0 return lock MISUSE", "0 Present", "0 dowN"},
		"leading zeros":  {"00 up", "01 up", "063 up", "000 up", "0063 call rlock", "03 return trylock false", "00 reg read"},
		"digits":         {"+0 up", "-0 up", "+1 up", "-1 up", "-63 up", "0x1 up", "1_0 up", "1. up", "1e1 up", "a up", "\u0661 up", "\uff11 up", "1a up", "0b1 up", " up", "+ up", "- up"},
		"too great":      {"64 up", "65 up", "99 up", "100 up", "630 up", "64 call rlock", "64 reg read", "64 return lock true", "256 up", "4294967296 up", "4294967297 up", "9223372036854775807 up", "9223372036854775808 up", "18446744073709551616 up", "18446744073709551617 up", "-9223372036854775808 up", "99999999999999999999999999 call lock"},
		"too long":       {strings.Repeat("0", 1000) + " up", strings.Repeat("1", 1000) + " up", "0" + strings.Repeat("0", 1<<16) + "3 reg read", strings.Repeat("9", 1<<16) + " return lock true"},
		"behind the end": {"0 upx", "0 up\x00", "0 up,", "0 up.", "0 up0 up", "0 up 0 up", "0 up\n0 up", "0 call rlock,", "0 call rlock\x00", "0 reg read;", "0 return lock true!", "0 return lock true 0 return lock true", "0 return lock true extra words more", "3 return trylock false false"},
		"any bytes":      {"\x00", "\xff", "\xff\xfe\xfd", "0\x00up", "\xb0 up", "0 \xf5p", "0 u\xf0", "\xe2\x80\x800 up", "\xef\xbb\xbf0 up", "0 call \xff", "0 return \xff \xff", "\xff \xff \xff \xff", "\u0660 up", strings.Repeat("\x80", 50)},
		"very long":      {strings.Repeat(" ", 1<<16), strings.Repeat("0 ", 1<<15), strings.Repeat("up ", 1<<15), "0 up" + strings.Repeat(" ", 1<<16), "0 up" + strings.Repeat(" up", 1<<15), "0 return lock true" + strings.Repeat(" true", 1<<14)},
	} {
		t.Run(what, func(t *testing.T) {
			for _, s := range l {
				noText(t, s)
			}
		})
	}
}

// P5.1: words from all rows, up to four of them: only those that make a text are parsed.
func TestParsePutTogether(t *testing.T) {
	words := []string{"", "0", "63", "64", "up", "pass", "reg", "call", "return", "lock", "downgrade", "read", "write", "true", "misuse", "rest"}
	l := words
	for range 4 {
		var longer []string
		for _, s := range l {
			parsesAsToldBy(t, s)
			for _, w := range words {
				longer = append(longer, s+" "+w)
			}
		}
		l = longer
	}
}

// parsesAsToldBy fails the test, unless s is parsed just if texts has it, and then to the note whose text it is.
func parsesAsToldBy(t *testing.T, s string) {
	t.Helper()
	if !texts.MatchString(s) {
		noText(t, s)
		return
	}
	n, e := note.Parse(s)
	if e != api.OK || told(n.Task)[n] != s {
		t.Errorf("Parse(%q): %+v, %v", s, n, e)
	}
}

// changed answers s cut short at each place, and with each byte left out, put in and put in its stead.
func changed(s string) []string {
	var l []string
	for i := 0; i <= len(s); i++ {
		l = append(l, s[:i], s[i:])
		for b := range 256 {
			l = append(l, s[:i]+string([]byte{byte(b)})+s[i:])
			if i < len(s) {
				l = append(l, s[:i]+string([]byte{byte(b)})+s[i+1:])
			}
		}
		if i < len(s) {
			l = append(l, s[:i]+s[i+1:])
		}
	}
	return l
}

// P5.1: a text that is changed by a byte is that of the note it says, or of none.
func TestParseChanged(t *testing.T) {
	for _, s := range []string{
		"0 up", "6 down", "63 present", "0 call rlock", "62 call trylock", "7 call tryrlock", "5 reg read", "55 reg write", "3 return trylock false", "10 return upgrade misuse", "0 return lock true",
	} {
		for _, c := range changed(s) {
			parsesAsToldBy(t, c)
		}
	}
}

// R6: what is parsed and told hangs on nothing that was asked ahead of it.
func TestSameAnswer(t *testing.T) {
	for range 3 {
		isRight(t, api.Note{Task: 3, What: api.NReturn, Op: api.TryLock, Arg: api.RetFalse}, "3 return trylock false")
		noText(t, "3 return trylock")
		isRight(t, api.Note{Task: 3, What: api.NUp}, "3 up")
		isWrong(t, api.Note{Task: 3, What: api.NUp, Op: 1})
		if note.Op(api.Lock) != "lock" || note.Number("lock") != api.Lock {
			t.Error("lock")
		}
	}
}

// some are notes of several tasks and Whats, right ones and wrong ones.
func some() []api.Note {
	return []api.Note{
		{Task: 1, What: api.NCall, Op: api.RLock},
		{Task: 2, What: api.NCall, Op: api.Lock},
		{Task: 1, What: api.NReg, Arg: api.HoldRead},
		{Task: 0, What: api.NUp},
		{Task: 1, What: api.NAdmit},
		{Task: 2, What: api.NReg, Arg: api.HoldWrite},
		{Task: 1, What: 99},
		{Task: -1, What: api.NUp},
		{Task: -2, What: api.NUp, Op: 3},
		{Task: 1, What: api.NReturn, Op: api.RLock, Arg: api.RetTrue},
		{Task: 70, What: api.NDown},
		{Task: 1, What: api.NAdmit},
		{},
		{Task: 63, What: api.NPass},
		{Task: math.MaxInt, What: math.MinInt, Op: math.MaxInt, Arg: math.MinInt},
	}
}

// P5.2: the texts of all notes, in their order, and empty ones of those that aren't right.
func TestRows(t *testing.T) {
	want := []string{"1 call rlock", "2 call lock", "1 reg read", "0 up", "1 admit", "2 reg write", "", "", "", "1 return rlock true", "", "1 admit", "", "63 pass", ""}
	if rows := note.Rows(some()...); !slices.Equal(rows, want) {
		t.Errorf("%q", rows)
	}
	if rows := note.Rows(api.Note{Task: 4, What: api.NLeave}); !slices.Equal(rows, []string{"4 leave"}) {
		t.Errorf("%q", rows)
	}
	if rows := note.Rows(api.Note{}); !slices.Equal(rows, []string{""}) {
		t.Errorf("%q", rows)
	}
	backwards := some()
	slices.Reverse(backwards)
	slices.Reverse(want)
	if rows := note.Rows(backwards...); !slices.Equal(rows, want) {
		t.Errorf("%q", rows)
	}
}

// P5.2: of no notes there are no texts.
func TestRowsOfNone(t *testing.T) {
	for _, rows := range [][]string{note.Rows(), note.Rows(nil...), note.Rows([]api.Note{}...)} {
		if len(rows) != 0 {
			t.Errorf("%q", rows)
		}
	}
}

// P5.2: many notes, among which some aren't right.
func TestRowsOfMany(t *testing.T) {
	var l []api.Note
	for i := range 1 << 14 {
		l = append(l, api.Note{Task: i % 67, What: i % 13, Op: i % 10, Arg: i % 5})
	}
	rows := note.Rows(l...)
	if len(rows) != len(l) {
		t.Fatalf("%d texts", len(rows))
	}
	for i, s := range rows {
		if s != note.Text(l[i]) {
			t.Fatalf("the text of %+v is %q", l[i], s)
		}
	}
}

// places answers those notes of some that stand at the places.
func places(at ...int) []api.Note {
	var l []api.Note
	for _, i := range at {
		l = append(l, some()[i])
	}
	return l
}

// P5.2: notes of a task, and of Whats.
func TestOf(t *testing.T) {
	for _, x := range []struct {
		task int
		what []int
		want []api.Note
	}{
		{1, nil, places(0, 2, 4, 6, 9, 11)},
		{1, []int{}, places(0, 2, 4, 6, 9, 11)},
		{2, nil, places(1, 5)},
		{0, nil, places(3, 12)},
		{63, nil, places(13)},
		{70, nil, places(10)},
		{3, nil, nil},
		{64, nil, nil},
		{257, nil, nil},
		{1<<32 + 1, nil, nil},
		{math.MaxInt, nil, places(14)},
		{-1, nil, some()},
		{-2, nil, some()},
		{-64, nil, some()},
		{math.MinInt, nil, some()},
		{1, []int{api.NAdmit}, places(4, 11)},
		{1, []int{api.NReturn, api.NCall}, places(0, 9)},
		{1, []int{api.NCall, api.NReturn}, places(0, 9)},
		{1, []int{api.NAdmit, api.NAdmit, api.NAdmit}, places(4, 11)},
		{1, []int{api.NUp}, nil},
		{1, []int{99}, places(6)},
		{1, []int{98, 0, -1, math.MaxInt}, nil},
		{1, []int{98, api.NReg}, places(2)},
		{0, []int{0}, places(12)},
		{0, []int{api.NUp}, places(3)},
		{-1, []int{api.NUp}, places(3, 7, 8)},
		{-2, []int{api.NUp}, places(3, 7, 8)},
		{math.MinInt, []int{api.NReg, api.NPass}, places(2, 5, 13)},
		{-1, []int{math.MinInt}, places(14)},
		{-1, []int{0}, places(12)},
		{-1, []int{api.NPresent}, nil},
		{-1, []int{1, 2, 3, 4, 5, 6, 7, 8, 9, 10, 11}, places(0, 1, 2, 3, 4, 5, 7, 8, 9, 10, 11, 13)},
	} {
		if got := note.Of(some(), x.task, x.what...); !slices.Equal(got, x.want) {
			t.Errorf("Of the task %d and the Whats %v: %+v, want %+v", x.task, x.what, got, x.want)
		}
	}
}

// P5.2: each What alone, of each task and of all.
func TestOfEachWhat(t *testing.T) {
	var l []api.Note
	for i := range 64 * 11 {
		l = append(l, api.Note{Task: i % 64, What: 1 + i/64, Op: i})
	}
	for what := 1; what <= 11; what++ {
		if got := note.Of(l, -1, what); !slices.Equal(got, l[64*(what-1):64*what]) {
			t.Errorf("of the What %d: %+v", what, got)
		}
		for task := range 64 {
			if got := note.Of(l, task, what); !slices.Equal(got, []api.Note{l[64*(what-1)+task]}) {
				t.Errorf("of the task %d and the What %d: %+v", task, what, got)
			}
		}
	}
}

// P5.2: of no notes none are picked out.
func TestOfNone(t *testing.T) {
	for _, task := range []int{-1, 0, 63, 64, math.MinInt, math.MaxInt} {
		for _, got := range [][]api.Note{note.Of(nil, task), note.Of([]api.Note{}, task), note.Of(nil, task, api.NUp), note.Of([]api.Note{}, task, 0, 99)} {
			if len(got) != 0 {
				t.Errorf("%+v", got)
			}
		}
	}
}

// R4: what is handed in is neither changed nor kept, and what lies behind its length isn't touched.
func TestArgumentsStay(t *testing.T) {
	long := some()
	l := long[:4]
	whats := []int{api.NUp, api.NCall, api.NReg, api.NAdmit}
	for _, task := range []int{-1, 0, 1} {
		got := note.Of(l, task, whats[:3]...)
		for i := range got {
			got[i] = api.Note{Task: 9}
		}
		_ = append(got, api.Note{Task: 9}, api.Note{Task: 9})
		all := note.Of(l, task)
		for i := range all {
			all[i] = api.Note{Task: 9}
		}
		_ = append(all, api.Note{Task: 9}, api.Note{Task: 9})
	}
	rows := note.Rows(l...)
	if !slices.Equal(long, some()) || !slices.Equal(whats, []int{api.NUp, api.NCall, api.NReg, api.NAdmit}) {
		t.Errorf("%+v, %v", long, whats)
	}
	l[0] = api.Note{}
	if rows[0] != "1 call rlock" {
		t.Errorf("%q", rows)
	}
}

// R4: what was answered once is no other one by what is done with a later answer.
func TestAnswersStay(t *testing.T) {
	first, second := note.Of(some(), 1), note.Of(some(), 1)
	for i := range first {
		first[i] = api.Note{}
	}
	if !slices.Equal(second, places(0, 2, 4, 6, 9, 11)) {
		t.Errorf("%+v", second)
	}
	rows, again := note.Rows(some()...), note.Rows(some()...)
	for i := range rows {
		rows[i] = "x"
	}
	if again[0] != "1 call rlock" {
		t.Errorf("%q", again)
	}
}
