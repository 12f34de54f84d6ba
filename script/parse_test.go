package script_test

import (
	"strconv"
	"strings"
	"testing"

	"stileman/api"
)

// P19.1: the chapter's example.
func TestExample(t *testing.T) {
	parses(t, "3 rlock\n0", pick(3, api.RLock), pick(0, api.Rest))
	parses(t, "3 rlock\n0\n", pick(3, api.RLock), pick(0, api.Rest))
}

// P19.1: a line with a task alone, of each task that a line can tell.
func TestTaskAlone(t *testing.T) {
	var all []api.Pick
	text := ""
	for task := range 1000 {
		line := strconv.Itoa(task)
		parses(t, line, pick(task, api.Rest))
		parses(t, line+"\n", pick(task, api.Rest))
		parses(t, line+" ", pick(task, api.Rest))
		text += line + "\n"
		all = append(all, pick(task, api.Rest))
	}
	parses(t, text, all...)
}

// P19.1: a line with a task, and each operation's word.
func TestOperations(t *testing.T) {
	for op, w := range words() {
		for task := range 1000 {
			parses(t, strconv.Itoa(task)+" "+w+"\n", pick(task, op))
		}
	}
	parses(t, "1 rlock\n2 runlock\n3 lock\n4 unlock\n5 tryrlock\n6 trylock\n7 upgrade\n8 downgrade\n",
		pick(1, 1), pick(2, 2), pick(3, 3), pick(4, 4), pick(5, 5), pick(6, 6), pick(7, 7), pick(8, 8))
}

// P19.1: blanks ahead of, between and behind words, one and many.
func TestBlanks(t *testing.T) {
	for _, ahead := range []int{0, 1, 2, 7, 5000} {
		for _, between := range []int{1, 2, 7, 5000} {
			for _, behind := range []int{0, 1, 2, 7, 5000} {
				a, b, c := strings.Repeat(" ", ahead), strings.Repeat(" ", between), strings.Repeat(" ", behind)
				parses(t, a+"12"+c, pick(12, api.Rest))
				parses(t, a+"12"+b+"unlock"+c, pick(12, api.Unlock))
				parses(t, a+"12"+c+"\n"+a+"0"+b+"lock"+c+"\n", pick(12, api.Rest), pick(0, api.Lock))
				parses(t, a+"#"+b+"x"+c+"\n"+a+"\n"+c+"\n")
				refuses(t, a+"12"+b+"unlock"+b+"x"+c, 1, api.ErrForm)
				refuses(t, a+"12"+b+"x"+c, 1, api.ErrWord)
				refuses(t, a+"x"+b+"lock"+c, 1, api.ErrForm)
			}
		}
	}
}

// P19.1: lines that say nothing: empty ones, ones of blanks, and ones whose first word begins with #, whatever stands in them.
func TestQuietLines(t *testing.T) {
	quiet := []string{
		"", " ", "    ", "#", "##", " #", "    # ", "#x", "# x", "#1 lock", "# 1 lock", "#1", "# 1 x y z", "#\t", "#\r", "#\x00\xff",
		"   #  a  b  c  ", "#lock 1", "# #", "#" + strings.Repeat(" x", 10000), strings.Repeat(" ", 10000), strings.Repeat("#", 10000),
	}
	for _, q := range quiet {
		parses(t, q)
		parses(t, q+"\n")
		parses(t, q+"\n3 lock", pick(3, api.Lock))
		parses(t, "3 lock\n"+q, pick(3, api.Lock))
		parses(t, "3 lock\n"+q+"\n", pick(3, api.Lock))
		for _, r := range quiet {
			parses(t, q+"\n"+r+"\n4\n"+r+"\n"+q+"\n5 rlock\n"+q+"\n"+q, pick(4, api.Rest), pick(5, api.RLock))
			refuses(t, q+"\n"+r+"\nx\n", 3, api.ErrForm)
		}
	}
	parses(t, strings.Join(quiet, "\n"))
}

// P19.1: a # that doesn't begin the first word makes no line quiet.
func TestNotQuiet(t *testing.T) {
	for _, line := range []string{"1#", "x#", "1# lock", "x #", "\t#", "\r#", "\x00# x", "\u00a0#", "\u3000# x", "\uff03", "\ufeff# x"} {
		refusesAnywhere(t, line, api.ErrForm)
	}
	for _, line := range []string{"1 #", "1 # x", "1 #lock", "1 lock#", "1 lock# x", "1  ## "} {
		refusesAnywhere(t, line, api.ErrWord)
	}
	for _, line := range []string{"1 lock #", "1 lock # x", "1  lock  #x y z"} {
		refusesAnywhere(t, line, api.ErrForm)
	}
}

// P19.1: each line is ended by a line feed, but for the last one, which may lack it; behind a last line feed there is no line.
func TestLineFeeds(t *testing.T) {
	parses(t, "")
	parses(t, "\n")
	parses(t, "\n\n\n")
	parses(t, "1\n2", pick(1, 0), pick(2, 0))
	parses(t, "1\n2\n", pick(1, 0), pick(2, 0))
	parses(t, "1\n2\n\n", pick(1, 0), pick(2, 0))
	parses(t, "\n\n1\n\n\n2\n\n", pick(1, 0), pick(2, 0))
	refuses(t, "1 \nlock", 2, api.ErrForm)
	refuses(t, "1 lock\n\nlock", 3, api.ErrForm)
	refuses(t, "1\n 2 lock 3", 2, api.ErrForm)
}

// P19.1: the same task, and the same line, any number of times, in their order.
func TestOrder(t *testing.T) {
	parses(t, "2 lock\n1 lock\n2 lock\n2\n2\n1 unlock\n", pick(2, 3), pick(1, 3), pick(2, 3), pick(2, 0), pick(2, 0), pick(1, 4))
	var l []api.Pick
	text := ""
	for i := range 3000 {
		text += strconv.Itoa(i*7%1000) + " " + words()[i%8+1] + "\n\n"
		l = append(l, pick(i*7%1000, i%8+1))
	}
	parses(t, text, l...)
}
