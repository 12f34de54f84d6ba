package script_test

import (
	"strconv"
	"strings"
	"testing"

	"stileman/api"
	"stileman/script"
)

// P19.1: first words that are no task's number.
func TestNoNumber(t *testing.T) {
	for _, w := range []string{
		"00", "01", "09", "000", "001", "010", "099", "0000", "0001", "0999", "1000", "1001", "1234", "9999", "10000", "99999", "00000000000",
		"+1", "-1", "+0", "-0", "+", "-", "--1", "1-", "1+", "+12", "-12", "+123", "-999", "+999", "1-2",
		"a", "x", "1a", "a1", "12a", "1a2", "a12", "o", "O", "l", "lock", "rlock", "0x1", "0b1", "0o7", "0x", "1e2", "1e0", "1.0", "1.", ".1", "1,0", "1_0", "1_2", "_1",
		"1\t", "\t1", "1\r", "\r1", "\r", "\t", "1\v", "1\f", "\x00", "1\x00", "\x001", "\xff", "1\xff", "1\x80", "\x1f1", "!1",
		"\u0661", "\uff11", "\u00b2", "1\u00a0", "\u00a01", "1\u2028", "\u30001", "1\u0085", "\ufeff1", "1\u200b",
		"18446744073709551616", "18446744073709551617", "9223372036854775807", "9223372036854775808", "-9223372036854775808", "4294967296", "4294967297", "65536", "65537",
		strings.Repeat("1", 10000), strings.Repeat("0", 10000), strings.Repeat("x", 10000), "1" + strings.Repeat("0", 10000),
	} {
		refusesAnywhere(t, w, api.ErrForm)
		refusesAnywhere(t, w+" lock", api.ErrForm)
	}
}

// P19.1: of all words of up to three bytes, just the numbers without noughts ahead are tasks' numbers.
func TestShortWords(t *testing.T) {
	right := map[string]int{}
	for task := range 1000 {
		right[strconv.Itoa(task)] = task
	}
	try := func(w string) {
		if task, ok := right[w]; ok {
			parses(t, w, pick(task, api.Rest))
		} else if w[0] != '#' {
			refuses(t, w, 1, api.ErrForm)
		}
	}
	var other []byte
	for b := range 256 {
		if b != ' ' && b != '\n' {
			other = append(other, byte(b))
		}
	}
	some := []byte("\x00\t\r!\"#$%&'()*+,-./0123456789:;<=>?@AEZ_`aexz~\x7f\x80\xb2\xc2\xff")
	for _, a := range other {
		try(string([]byte{a}))
		for _, b := range other {
			try(string([]byte{a, b}))
		}
	}
	for _, a := range some {
		for _, b := range some {
			for _, c := range some {
				try(string([]byte{a, b, c}))
			}
		}
	}
}

// P19.1: a number of four digits, from 1,000 to 9,999, and one with a nought ahead, is no task's.
func TestFourDigits(t *testing.T) {
	for n := range 10000 {
		if n >= 1000 {
			refuses(t, strconv.Itoa(n)+" lock", 1, api.ErrForm)
		}
		refuses(t, "0"+strconv.Itoa(n)+" lock", 1, api.ErrForm)
		refuses(t, "00"+strconv.Itoa(n), 1, api.ErrForm)
	}
}

// P19.1: second words that are no operation's.
func TestNoWord(t *testing.T) {
	for _, w := range []string{
		"x", "0", "1", "3", "8", "9", "-", "#", "##", "rest", "Rest", "REST", "none", "LOCK", "Lock", "lOCK", "locK", "RLock", "RLOCK", "Rlock", "TryLock", "TRYLOCK",
		"try", "tryupgrade", "TryUpgrade", "trydowngrade", "up", "down", "grade", "read", "write", "call", "return", "reg", "admit", "true", "false", "misuse", "spin", "task-fair",
		"lock\t", "\tlock", "lock\r", "\rlock", "lock\x00", "\x00lock", "lock\xff", "\u217cock", "lock\u00a0", "\u00a0lock", "lock\u0085", "\ufb02ock", "\t", "\r", "\x00", "\xff",
		"locklock", "rlock,lock", "lock;", "lock#", "#lock", strings.Repeat("lock", 10000), strings.Repeat("x", 100000),
	} {
		refusesAnywhere(t, "1 "+w, api.ErrWord)
		refusesAnywhere(t, "999   "+w+"  ", api.ErrWord)
	}
}

// P19.1: an operation's word with a byte more, less, or another one, at any place, or in capital letters.
func TestNearWords(t *testing.T) {
	near := func(w string) {
		if w != "" && !isWord(w) {
			refuses(t, "7 "+w, 1, api.ErrWord)
		}
	}
	for _, w := range words() {
		for i := range len(w) + 1 {
			for b := range 256 {
				if b == ' ' || b == '\n' {
					continue
				}
				c := string([]byte{byte(b)})
				near(w[:i] + c + w[i:])
				if i < len(w) {
					near(w[:i] + c + w[i+1:])
				}
			}
			near(w[:i])
			near(w[i:])
			if i < len(w) {
				near(w[:i] + w[i+1:])
				near(w[:i] + strings.ToUpper(w[i:i+1]) + w[i+1:])
			}
		}
		near(strings.ToUpper(w))
		for _, v := range words() {
			near(w + v)
		}
	}
}

// P19.1: a third word, whatever it is, and more of them.
func TestThirdWord(t *testing.T) {
	for op, w := range words() {
		for _, x := range []string{"x", "lock", "0", "1", w, "#", "# x", "x y", "\t", "\r", "\x00", "rlock lock", "x  y  z ", strings.Repeat("x ", 10000)} {
			refusesAnywhere(t, "1 "+w+" "+x, api.ErrForm)
			refusesAnywhere(t, "1  "+w+"   "+x+" ", api.ErrForm)
		}
		parses(t, "1 "+w+"   ", pick(1, op))
	}
}

// P19.1: bytes that look like blanks, but are none, part no words.
func TestOtherBlanks(t *testing.T) {
	for _, b := range []string{"\t", "\r", "\v", "\f", "\x00", "\x1f", "!", "\u00a0", "\u0085", "\u2003", "\u2028", "\u3000", "\xff"} {
		refusesAnywhere(t, "1"+b+"lock", api.ErrForm)
		refusesAnywhere(t, b, api.ErrForm)
		refusesAnywhere(t, b+" 1", api.ErrForm)
		refusesAnywhere(t, b+"1 lock", api.ErrForm)
		refusesAnywhere(t, "1"+b, api.ErrForm)
		refusesAnywhere(t, "1 "+b, api.ErrWord)
		refusesAnywhere(t, "1 "+b+" lock", api.ErrWord)
		refusesAnywhere(t, "1 "+b+"lock", api.ErrWord)
		refusesAnywhere(t, "1 lock"+b, api.ErrWord)
		refusesAnywhere(t, "1 lock "+b, api.ErrForm)
		parses(t, "#"+b+"1 lock"+b)
	}
	refuses(t, "1\r\n2\r\n", 1, api.ErrForm)
	refuses(t, "1 lock\r\n", 1, api.ErrWord)
	refuses(t, "# x\r\n\r\n1\n", 2, api.ErrForm)
	refuses(t, "1\r2", 1, api.ErrForm)
}

// P19.1: of several errors of one line, the one that is named first.
func TestFirstError(t *testing.T) {
	refusesAnywhere(t, "x y z", api.ErrForm)
	refusesAnywhere(t, "x y", api.ErrForm)
	refusesAnywhere(t, "1000 LOCK", api.ErrForm)
	refusesAnywhere(t, "01 lock lock", api.ErrForm)
	refusesAnywhere(t, "1 y z", api.ErrWord)
	refusesAnywhere(t, "1 y lock", api.ErrWord)
	refusesAnywhere(t, "1 2 3 4", api.ErrWord)
	refusesAnywhere(t, "1 lock lock", api.ErrForm)
	refusesAnywhere(t, "lock 1", api.ErrForm)
	refusesAnywhere(t, "lock", api.ErrForm)
}

// P19.1: of several wrong lines, the first one; those that say nothing are counted, too.
func TestFirstLine(t *testing.T) {
	refuses(t, "x\n1 y\n", 1, api.ErrForm)
	refuses(t, "1 y\nx\n", 1, api.ErrWord)
	refuses(t, "1\n1 y\nx\n", 2, api.ErrWord)
	refuses(t, "\n\n# z\n1 lock lock\n1 y\nx", 4, api.ErrForm)
	refuses(t, "\n\n\n\n\n\n\n\n\n 1000", 10, api.ErrForm)
	for n := range 300 {
		refuses(t, strings.Repeat("\n", n)+"x", n+1, api.ErrForm)
		refuses(t, strings.Repeat("5 lock\n", n)+"5 y\nx", n+1, api.ErrWord)
		refuses(t, strings.Repeat("  # a b c \n", n)+"1 lock x\n"+strings.Repeat("x\n", n), n+1, api.ErrForm)
	}
	refuses(t, strings.Repeat("\n", 1<<19)+"1 y\n", 1<<19+1, api.ErrWord)
}

// P1, P19.1: texts of any bytes end, and are either a script or wrong in a line that is there.
func TestAnyBytes(t *testing.T) {
	d := dice(19)
	for range 20000 {
		b := make([]byte, d.below(40))
		for i := range b {
			b[i] = byte(d.below(256))
		}
		held(t, string(b))
	}
	for _, text := range []string{strings.Repeat("\x00", 1<<20), strings.Repeat("\xff ", 1<<19), strings.Repeat(" ", 1<<20), strings.Repeat("1", 1<<20), strings.Repeat("1 ", 1<<19), "1 " + strings.Repeat("lock ", 1<<17)} {
		if l, at, e := script.Parse(text); (e == api.OK) != (at == 0) || e != api.OK && (at != 1 || len(l) != 0) {
			t.Errorf("Parse(%s): %d picks, %d, %v", short(text), len(l), at, e)
		}
	}
}
