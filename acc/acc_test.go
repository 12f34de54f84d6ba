package acc_test

import (
	"fmt"
	"math"
	"regexp"
	"strconv"
	"strings"
	"testing"

	"stileman/acc"
	"stileman/api"
	"stileman/cells"
)

const (
	top  = math.MaxUint32
	half = 1 << 31
)

// kinds are all kinds of accesses.
func kinds() []int {
	return []int{api.ALoad, api.AStore, api.AAdd, api.ASwap, api.ACas}
}

// noKinds are numbers that are no kinds of accesses.
func noKinds() []int {
	return []int{api.ANone, 6, 7, -1, -5, 256 + api.ALoad, 1<<32 + api.AStore, math.MinInt, math.MinInt + 1, math.MaxInt}
}

// noCells are numbers of cells that no memory has.
func noCells() []int {
	return []int{-1, -2, -1023, -1024, 1024, 1025, 2048, 10000, 1 << 32, 1<<32 + 3, math.MinInt, math.MinInt + 3, math.MaxInt}
}

// words are some of all sorts, with those at the edges.
func words() []uint32 {
	return []uint32{0, 1, 5, 10, 0xff, 0x1000, 0xfffffff, 0x10000000, 0x12345678, 0x9abcdef0, half - 1, half, half + 1, top - 1, top}
}

// usesX and usesY tell what an access of that kind has beside its cell.
func usesX(kind int) bool { return kind != api.ALoad }
func usesY(kind int) bool { return kind == api.ACas }

// access makes a right one of the kind, with as much of x and y as it uses.
func access(kind, cell int, x, y, old uint32) api.Access {
	a := api.Access{Kind: kind, Cell: cell, Old: old}
	if usesX(kind) {
		a.X = x
	}
	if usesY(kind) {
		a.Y = y
	}
	return a
}

// textOf writes the text of a right access in another way than the package does.
func textOf(a api.Access) string {
	switch a.Kind {
	case api.ALoad:
		return fmt.Sprintf("load %d was %08x", a.Cell, a.Old)
	case api.AStore:
		return fmt.Sprintf("store %d %08x was %08x", a.Cell, a.X, a.Old)
	case api.AAdd:
		return fmt.Sprintf("add %d %08x was %08x", a.Cell, a.X, a.Old)
	case api.ASwap:
		return fmt.Sprintf("swap %d %08x was %08x", a.Cell, a.X, a.Old)
	}
	return fmt.Sprintf("cas %d %08x %08x was %08x", a.Cell, a.X, a.Y, a.Old)
}

// isText tells whether s is the text of a right access, in another way than the package does.
func isText(s string) bool {
	m := texts.FindStringSubmatch(s)
	if m == nil {
		return false
	}
	c, err := strconv.Atoi(m[1] + m[2] + m[3])
	return err == nil && c <= 1023
}

// texts are all texts of right accesses, and those that only have too great a cell.
var texts = regexp.MustCompile(`\A(?:load (0|[1-9][0-9]*)|(?:store|add|swap) (0|[1-9][0-9]*) [0-9a-f]{8}|cas (0|[1-9][0-9]*) [0-9a-f]{8} [0-9a-f]{8}) was [0-9a-f]{8}\z`)

// isRight fails the test, unless a is right, has that text, and is what the text is parsed to.
func isRight(t *testing.T, a api.Access, text string) {
	t.Helper()
	if !acc.Right(a) {
		t.Errorf("%+v isn't right", a)
	}
	if got := acc.Text(a); got != text {
		t.Errorf("the text of %+v is %q, want %q", a, got, text)
	}
	if b, e := acc.Parse(text); b != a || e != api.OK {
		t.Errorf("Parse(%q): %+v, %v, want %+v", text, b, e, a)
	}
}

// isWrong fails the test, if a is right or has a text.
func isWrong(t *testing.T, a api.Access) {
	t.Helper()
	if acc.Right(a) {
		t.Errorf("%+v is right", a)
	}
	if got := acc.Text(a); got != "" {
		t.Errorf("the text of %+v is %q", a, got)
	}
}

// noText fails the test, if s is parsed to anything.
func noText(t *testing.T, s string) {
	t.Helper()
	if a, e := acc.Parse(s); a != (api.Access{}) || e != api.ErrForm {
		t.Errorf("Parse(%q): %+v, %v", s, a, e)
	}
}

// P4.1: texts of each kind, at the edges.
func TestText(t *testing.T) {
	for _, x := range []struct {
		a    api.Access
		text string
	}{
		{api.Access{Kind: api.AAdd, X: 1, Old: top}, "add 0 00000001 was ffffffff"},
		{api.Access{Kind: api.ALoad}, "load 0 was 00000000"},
		{api.Access{Kind: api.ALoad, Cell: 1023, Old: top}, "load 1023 was ffffffff"},
		{api.Access{Kind: api.ALoad, Cell: 7, Old: 0x9abcdef0}, "load 7 was 9abcdef0"},
		{api.Access{Kind: api.AStore}, "store 0 00000000 was 00000000"},
		{api.Access{Kind: api.AStore, Cell: 1023, X: top, Old: top}, "store 1023 ffffffff was ffffffff"},
		{api.Access{Kind: api.AStore, Cell: 10, X: 0x12345678, Old: 0xab}, "store 10 12345678 was 000000ab"},
		{api.Access{Kind: api.AAdd, Cell: 100, X: half, Old: half - 1}, "add 100 80000000 was 7fffffff"},
		{api.Access{Kind: api.AAdd, Cell: 1023, X: top}, "add 1023 ffffffff was 00000000"},
		{api.Access{Kind: api.ASwap}, "swap 0 00000000 was 00000000"},
		{api.Access{Kind: api.ASwap, Cell: 1023, X: 16, Old: 16}, "swap 1023 00000010 was 00000010"},
		{api.Access{Kind: api.ACas}, "cas 0 00000000 00000000 was 00000000"},
		{api.Access{Kind: api.ACas, Cell: 1023, X: 1, Y: 2, Old: 3}, "cas 1023 00000001 00000002 was 00000003"},
		{api.Access{Kind: api.ACas, Cell: 9, X: top, Old: top}, "cas 9 ffffffff 00000000 was ffffffff"},
		{api.Access{Kind: api.ACas, Cell: 9, Y: top}, "cas 9 00000000 ffffffff was 00000000"},
	} {
		isRight(t, x.a, x.text)
	}
}

// P4.1: all cells of each kind, and no two accesses with one text.
func TestAllCells(t *testing.T) {
	told := map[string]bool{}
	for _, kind := range kinds() {
		for c := range api.MaxCells {
			a := access(kind, c, uint32(c)*0x9e3779b9, uint32(c)+1, ^uint32(c))
			isRight(t, a, textOf(a))
			told[acc.Text(a)] = true
		}
	}
	if len(told) != 5*api.MaxCells {
		t.Errorf("%d texts", len(told))
	}
}

// P4.1: words of all sorts in each part of each kind.
func TestAllWords(t *testing.T) {
	for _, kind := range kinds() {
		for _, x := range words() {
			for _, y := range words() {
				for _, old := range words() {
					a := access(kind, 42, x, y, old)
					isRight(t, a, textOf(a))
				}
			}
		}
	}
}

// P4.1: each number of bits, in each part.
func TestAllBits(t *testing.T) {
	for bit := range 32 {
		x := uint32(1) << bit
		for _, a := range []api.Access{
			{Kind: api.ALoad, Old: x}, {Kind: api.AStore, X: x}, {Kind: api.ACas, Y: x}, {Kind: api.ASwap, X: x - 1, Old: ^x},
		} {
			isRight(t, a, textOf(a))
		}
	}
}

// P4.1: a kind that is none isn't right, whatever the parts are.
func TestWrongKind(t *testing.T) {
	isWrong(t, api.Access{})
	for _, kind := range noKinds() {
		for _, c := range []int{0, 1, 1023, 1024, -1} {
			isWrong(t, api.Access{Kind: kind, Cell: c})
			isWrong(t, api.Access{Kind: kind, Cell: c, Old: 4})
			isWrong(t, api.Access{Kind: kind, Cell: c, X: 1, Y: 2, Old: 3})
		}
	}
}

// P4.1: a cell that no memory has isn't right, of each kind.
func TestWrongCell(t *testing.T) {
	for _, kind := range kinds() {
		for _, c := range noCells() {
			isWrong(t, access(kind, c, 0, 0, 0))
			isWrong(t, access(kind, c, 1, 2, 3))
		}
	}
}

// P4.1: what a kind doesn't use must be 0.
func TestWrongParts(t *testing.T) {
	for _, w := range words() {
		if w == 0 {
			continue
		}
		for _, c := range []int{0, 5, 1023} {
			isWrong(t, api.Access{Kind: api.ALoad, Cell: c, X: w})
			isWrong(t, api.Access{Kind: api.ALoad, Cell: c, Y: w, Old: w})
			isWrong(t, api.Access{Kind: api.ALoad, Cell: c, X: w, Y: w, Old: w})
			for _, kind := range []int{api.AStore, api.AAdd, api.ASwap} {
				isWrong(t, api.Access{Kind: kind, Cell: c, Y: w})
				isWrong(t, api.Access{Kind: kind, Cell: c, X: 3, Y: w, Old: 3})
			}
		}
	}
}

// P4.1: texts that are wrong, by what is wrong with them.
func TestParseWrong(t *testing.T) {
	for what, l := range map[string][]string{
		"cut short":      {"", "l", "load", "load ", "load 3", "load 3 ", "load 3 was", "load 3 was ", "load 3 was 0000000", "store 3", "store 3 00000001", "store 3 00000001 was", "cas 3 00000001 00000002 was ", "cas 3 00000001 00000002", "add", "swap "},
		"a part missing": {"3 was 00000005", "load was 00000005", "load 3 00000005", "store 3 was 00000005", "add was 00000001", "cas 3 00000001 was 00000003", "cas 3 was 00000003", "cas 00000001 00000002 was 00000003", "was 00000005", "swap 3 00000001 00000002"},
		"a part more":    {"load 3 00000000 was 00000005", "store 3 00000001 00000000 was 00000005", "add 3 00000001 00000000 was 00000005", "swap 3 00000001 00000002 was 00000003", "cas 3 00000001 00000002 00000003 was 00000004", "load 3 3 was 00000005", "load load 3 was 00000005", "load 3 was was 00000005", "load 3 was 00000005 00000005"},
		"blanks":         {" ", "     ", " load 3 was 00000005", "load  3 was 00000005", "load 3  was 00000005", "load 3 was  00000005", "load 3 was 00000005 ", "load3 was 00000005", "load 3was 00000005", "load 3 was00000005", "add  3 00000001 was 00000000", "cas 3 00000001  00000002 was 00000003", "cas 3 0000000100000002 was 00000003", "load\t3 was 00000005", "load 3 was\n00000005", "load 3 was 00000005\n", "load\u00a03 was 00000005", "store 3  was 00000005", "load 3 was 00000005\r\n"},
		"words":          {"jump 3 was 00000005", "none 3 was 00000005", " 3 was 00000005", "loa 3 was 00000005", "loads 3 was 00000005", "stor 3 00000001 was 00000005", "xchg 3 00000001 was 00000005", "load 3 is 00000005", "load 3 wa 00000005", "load 3 wass 00000005", "1 3 was 00000005", "5 3 00000001 00000002 was 00000003"},
		"letters' case":  {"Load 3 was 00000005", "LOAD 3 was 00000005", "CAS 3 00000001 00000002 was 00000003", "load 3 Was 00000005", "load 3 WAS 00000005", "load 3 was 0000000A", "load 3 was FFFFFFFF", "add 3 0000000B was 0000000b", "cas 3 00000001 0000000C was 00000000", "swap 3 ABCDEF01 was 00000000"},
		"leading zeros":  {"load 03 was 00000005", "load 00 was 00000005", "load 0003 was 00000005", "load 01023 was 00000005", "add 00 00000001 was 00000005", "load 3 was 000000005", "store 3 000000001 was 00000005", "cas 3 00000001 000000002 was 00000003"},
		"digits":         {"load 3 was 5", "load 3 was 0", "load 3 was 00005", "load 3 was 0x000005", "load 3 was 0x00000005", "load 3 was 0000000g", "load 3 was +0000005", "load 3 was -0000001", "load 3 was 0000_005", "store 3 1 was 00000005", "store 3 0000001 was 00000005", "load +3 was 00000005", "load -0 was 00000005", "load -1 was 00000005", "load 0x3 was 00000005", "load a was 00000005", "load 3. was 00000005", "load 1e2 was 00000005", "load 1_0 was 00000005", "load \u0663 was 00000005", "load 3 was \uff10\uff10\uff10\uff10\uff10\uff10\uff10\uff15", "load 3 was 0000000\u0665", "load  was 00000005", "store 3  was 00000005"},
		"too great":      {"load 1024 was 00000000", "cas 1024 00000001 00000002 was 00000003", "add 1025 00000001 was 00000000", "load 9999 was 00000000", "load 10000 was 00000000", "load 4294967296 was 00000000", "load 4294967299 was 00000000", "load 18446744073709551616 was 00000000", "load 18446744073709551619 was 00000000", "load 99999999999999999999999999 was 00000000"},
		"too long":       {"load 3 was 100000000", "load 3 was 100000005", "load 3 was fffffffff", "add 3 100000001 was 00000000", "load 3 was 1ffffffffffffffff", "load 3 was " + strings.Repeat("f", 1000), "load 3 was " + strings.Repeat("0", 1000), "load " + strings.Repeat("0", 1000) + "3 was 00000000", "load " + strings.Repeat("1", 1000) + " was 00000000"},
		"behind the end": {"load 3 was 00000005x", "load 3 was 00000005\x00", "load 3 was 00000005,", "load 3 was 00000005load 3 was 00000005", "load 3 was 00000005 load 3 was 00000005", "add 0 00000001 was ffffffff ffffffff", "load 3 was 00000005 was", "load 3 was 00000005 was 00000005"},
		"any bytes":      {"\x00", "\xff", "\xff\xfe\xfd", "load\x003\x00was\x0000000005", "load 3 was 0000000\xb5", "load \xb3 was 00000005", "\xe2\x80load 3 was 00000005", "load \xff was \xff", "\u0661", strings.Repeat("\x80", 50)},
		"very long":      {strings.Repeat(" ", 1<<16), strings.Repeat("load ", 1<<14), strings.Repeat("0", 1<<16), "load 3 was 00000005" + strings.Repeat(" ", 1<<16)},
	} {
		t.Run(what, func(t *testing.T) {
			for _, s := range l {
				noText(t, s)
			}
		})
	}
}

// changed answers s cut short at each place, and with each byte left out, put twice, put in and put in its stead.
func changed(s string) []string {
	var l []string
	for i := 0; i <= len(s); i++ {
		l = append(l, s[:i], s[i:])
		for b := range 256 {
			l = append(l, s[:i]+string([]byte{byte(b)})+s[i:])
			if i < len(s) {
				l = append(l, s[:i]+string([]byte{byte(b)})+s[i+1:])
			}
		}
		if i < len(s) {
			l = append(l, s[:i]+s[i+1:])
		}
	}
	return l
}

// P4.1: a text that is changed by a byte is that of the access it says, or of none.
func TestParseChanged(t *testing.T) {
	for _, s := range []string{
		"load 0 was 00000000", "load 1023 was ffffffff", "load 102 was 0000000a", "store 3 00000001 was 00000005",
		"add 0 00000001 was ffffffff", "swap 999 abcdef01 was 00000002", "cas 10 00000001 00000002 was 00000003",
	} {
		for _, c := range changed(s) {
			if !isText(c) {
				noText(t, c)
				continue
			}
			a, e := acc.Parse(c)
			if e != api.OK || !acc.Right(a) || textOf(a) != c {
				t.Errorf("Parse(%q): %+v, %v", c, a, e)
			}
		}
	}
}

// P4.1: the word of each kind with each number of words behind the cell.
func TestParseEachKindsParts(t *testing.T) {
	for i, word := range []string{"", "load", "store", "add", "swap", "cas", "none"} {
		for n := range 6 {
			s := word + " 3" + strings.Repeat(" 00000000", n) + " was 00000000"
			want := 1
			switch word {
			case "load":
				want = 0
			case "cas":
				want = 2
			case "", "none":
				want = -1
			}
			if n != want {
				noText(t, s)
				continue
			}
			isRight(t, api.Access{Kind: i, Cell: 3}, s)
		}
	}
}

// R6: what is parsed hangs on nothing that was parsed ahead of it.
func TestSameAnswer(t *testing.T) {
	for range 3 {
		isRight(t, api.Access{Kind: api.ACas, Cell: 10, X: 1, Y: 2, Old: 3}, "cas 10 00000001 00000002 was 00000003")
		noText(t, "cas 10 00000001 was 00000003")
		isRight(t, api.Access{Kind: api.ALoad, Cell: 10, Old: 3}, "load 10 was 00000003")
		isWrong(t, api.Access{Kind: api.ALoad, X: 1})
	}
}

// P4.2: Writes of each kind.
func TestWrites(t *testing.T) {
	for _, x := range []struct {
		a    api.Access
		want bool
	}{
		{api.Access{Kind: api.ALoad}, false},
		{api.Access{Kind: api.ALoad, Old: 5}, false},
		{api.Access{Kind: api.AStore, X: 5, Old: 5}, false},
		{api.Access{Kind: api.AStore, X: 4, Old: 5}, true},
		{api.Access{Kind: api.AStore, Old: 5}, true},
		{api.Access{Kind: api.AStore}, false},
		{api.Access{Kind: api.AStore, X: top, Old: top}, false},
		{api.Access{Kind: api.AStore, X: top}, true},
		{api.Access{Kind: api.ASwap, X: 5, Old: 5}, false},
		{api.Access{Kind: api.ASwap, X: 5, Old: 4}, true},
		{api.Access{Kind: api.ASwap, Old: top}, true},
		{api.Access{Kind: api.ASwap}, false},
		{api.Access{Kind: api.AAdd}, false},
		{api.Access{Kind: api.AAdd, Old: 5}, false},
		{api.Access{Kind: api.AAdd, X: 1}, true},
		{api.Access{Kind: api.AAdd, X: 5, Old: 5}, true},
		{api.Access{Kind: api.AAdd, X: top, Old: 1}, true},
		{api.Access{Kind: api.AAdd, X: half, Old: half}, true},
		{api.Access{Kind: api.ACas, X: 5, Y: 6, Old: 5}, true},
		{api.Access{Kind: api.ACas, X: 5, Old: 5}, true},
		{api.Access{Kind: api.ACas, Y: top}, true},
		{api.Access{Kind: api.ACas, X: top, Y: 1, Old: top}, true},
		{api.Access{Kind: api.ACas, X: 5, Y: 5, Old: 5}, false},
		{api.Access{Kind: api.ACas, X: 4, Y: 6, Old: 5}, false},
		{api.Access{Kind: api.ACas, X: 4, Y: 5, Old: 5}, false},
		{api.Access{Kind: api.ACas, X: 4, Y: 4, Old: 5}, false},
		{api.Access{Kind: api.ACas}, false},
	} {
		if got := acc.Writes(x.a); got != x.want {
			t.Errorf("Writes(%+v) is %v", x.a, got)
		}
	}
}

// P4.2: Writes tells what an access does that is done on a cell with Old.
func TestWritesAsDone(t *testing.T) {
	for _, kind := range append(kinds(), noKinds()...) {
		for _, x := range words() {
			for _, y := range words() {
				for _, old := range words() {
					m, _ := cells.From(1, old, 3)
					a := api.Access{Kind: kind, Cell: 1, X: x, Y: y, Old: old}
					m.Do(a)
					if got := acc.Writes(a); got != (m.Load(1) != old) {
						t.Fatalf("Writes(%+v) is %v, and the word %#x is %#x then", a, got, old, m.Load(1))
					}
				}
			}
		}
	}
}

// P4.2: of a kind that is none nothing is written.
func TestWritesNoKind(t *testing.T) {
	for _, kind := range noKinds() {
		for _, a := range []api.Access{{}, {X: 1}, {X: 1, Y: 2, Old: 1}, {Y: 1}, {X: top, Old: 1, Cell: 1023}} {
			a.Kind = kind
			if acc.Writes(a) {
				t.Errorf("Writes(%+v)", a)
			}
		}
	}
}

// P4.2: it hangs on the kind and the words alone, not on the cell, nor on a part that the kind doesn't use.
func TestWritesAnyCell(t *testing.T) {
	for _, c := range append(noCells(), 0, 1023) {
		for _, kind := range kinds() {
			if acc.Writes(api.Access{Kind: kind, Cell: c, X: 5, Y: 6, Old: 5}) != (kind == api.AAdd || kind == api.ACas) {
				t.Errorf("the kind %d on the cell %d, of an X that is Old", kind, c)
			}
			if acc.Writes(api.Access{Kind: kind, Cell: c, X: 4, Y: 6, Old: 5}) != (kind == api.AStore || kind == api.AAdd || kind == api.ASwap) {
				t.Errorf("the kind %d on the cell %d, of an X that isn't Old", kind, c)
			}
		}
	}
}
