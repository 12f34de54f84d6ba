package script_test

import (
	"slices"
	"strings"
	"testing"

	"stileman/api"
	"stileman/script"
)

// most is how many picks a text may have.
const most = 1 << 20

// P19.1: a text of MaxPicks picks is a script, whatever lines that say nothing stand between and behind.
func TestMost(t *testing.T) {
	for _, text := range []string{
		strings.Repeat("5\n", most),
		strings.Repeat("5\n", most-1) + "5",
		strings.Repeat("5\n", most) + "\n \n# x\n",
		"# x\n\n" + strings.Repeat("5\n\n", most) + "#",
	} {
		l, at, e := script.Parse(text)
		if e != api.OK || at != 0 || len(l) != most {
			t.Fatalf("Parse(%s): %d picks, %d, %v", short(text), len(l), at, e)
		}
		if slices.ContainsFunc(l, func(p api.Pick) bool { return p != pick(5, api.Rest) }) {
			t.Errorf("Parse(%s): a pick is another one", short(text))
		}
	}
}

// P19.1: one pick more is one too many, in the line in which it stands.
func TestFull(t *testing.T) {
	refuses(t, strings.Repeat("5\n", most+1), most+1, api.ErrFull)
	refuses(t, strings.Repeat("5\n", most)+"5", most+1, api.ErrFull)
	refuses(t, strings.Repeat("5\n", most)+"\n# y\n 7 lock \n", most+3, api.ErrFull)
	refuses(t, "\n"+strings.Repeat("5 unlock\n", most+5), most+2, api.ErrFull)
	refuses(t, strings.Repeat("5\n\n", most)+"6 trylock", 2*most+1, api.ErrFull)
}

// P19.1: a line behind MaxPicks that is wrong otherwise is that; of several lines the first one.
func TestFullAndWrong(t *testing.T) {
	text := strings.Repeat("5\n", most)
	refuses(t, text+"x", most+1, api.ErrForm)
	refuses(t, text+"5 x", most+1, api.ErrWord)
	refuses(t, text+"5 lock x", most+1, api.ErrForm)
	refuses(t, text+"5 x y\n5\n", most+1, api.ErrWord)
	refuses(t, text+"5\nx\n", most+1, api.ErrFull)
	refuses(t, text+"\nx\n5\n", most+2, api.ErrForm)
	refuses(t, "x\n"+text+"5", 1, api.ErrForm)
	refuses(t, text[:2*most-2]+"5 x\n5\n5\n", most, api.ErrWord)
}

// P19.2: MaxPicks picks have a text, and so have more of them, for P19.2 names no bound; Parse of that is full.
func TestTextOfMost(t *testing.T) {
	l := make([]api.Pick, most+1)
	for i := range l {
		l[i] = pick(i%1000, i%9)
	}
	text, at, e := script.Text(l[:most]...)
	if at != 0 || e != api.OK || strings.Count(text, "\n") != most {
		t.Fatalf("Text: %s, %d, %v", short(text), at, e)
	}
	parses(t, text, l[:most]...)
	more, at, e := script.Text(l...)
	if at != 0 || e != api.OK || strings.TrimPrefix(more, text) != line(l[most]) {
		t.Fatalf("Text: %s, %d, %v", short(more), at, e)
	}
	refuses(t, more, most+1, api.ErrFull)
	l[most] = pick(1000, 0)
	denies(t, most, api.ErrRange, l...)
	l[most-1] = pick(0, 9)
	denies(t, most-1, api.ErrWord, l...)
}
