package script_test

import (
	"regexp"
	"slices"
	"strconv"
	"strings"
	"testing"

	"stileman/api"
	"stileman/script"
)

// What lines are, in another way than the package asks for.
var (
	quietLine   = regexp.MustCompile(`(?s)\A *(?:#.*)?\z`)
	rightLine   = regexp.MustCompile(`\A *(0|[1-9][0-9]?[0-9]?)(?: +(rlock|runlock|lock|unlock|tryrlock|trylock|upgrade|downgrade))? *\z`)
	rightNumber = regexp.MustCompile(`(?s)\A *(?:0|[1-9][0-9]?[0-9]?)(?: .*)?\z`)
	rightSecond = regexp.MustCompile(`(?s)\A *[^ ]+ +(?:rlock|runlock|lock|unlock|tryrlock|trylock|upgrade|downgrade)(?: .*)?\z`)
)

// twin does what Parse does, for texts of few lines.
func twin(text string) ([]api.Pick, int, api.Errno) {
	lines := strings.Split(text, "\n")
	if last := len(lines) - 1; lines[last] == "" {
		lines = lines[:last]
	}
	var l []api.Pick
	for i, line := range lines {
		if quietLine.MatchString(line) {
			continue
		}
		if m := rightLine.FindStringSubmatch(line); m != nil {
			task, _ := strconv.Atoi(m[1])
			op := 0
			for k, w := range words() {
				if w == m[2] {
					op = k
				}
			}
			l = append(l, pick(task, op))
			continue
		}
		if rightNumber.MatchString(line) && !rightSecond.MatchString(line) {
			return nil, i + 1, api.ErrWord
		}
		return nil, i + 1, api.ErrForm
	}
	return l, 0, api.OK
}

// held fails the test, unless Parse answers what the twin does.
func held(t *testing.T, text string) {
	t.Helper()
	l, at, e := script.Parse(text)
	l2, at2, e2 := twin(text)
	if at != at2 || e != e2 || !slices.Equal(l, l2) {
		t.Errorf("Parse(%s): %v, %d, %v, want %v, %d, %v", short(text), l, at, e, l2, at2, e2)
	}
}

// P19.1: all texts of up to six pieces, held against the twin.
func TestAllPieces(t *testing.T) {
	pieces := []string{" ", "\n", "0", "1", "#", "lock", "x", "\t"}
	var all func(text string, n int)
	all = func(text string, n int) {
		held(t, text)
		if n == 0 {
			return
		}
		for _, p := range pieces {
			all(text+p, n-1)
		}
	}
	all("", 6)
}

// P19.1: long texts of many pieces, most of them right, held against the twin.
func TestManyPieces(t *testing.T) {
	firsts := []string{"0", "1", "9", "10", "63", "99", "100", "999", "12", "7", " 5", "   42", "#", " # x", "", "  "}
	seconds := []string{"", "", " rlock", " runlock", "  lock", " unlock ", " tryrlock", " trylock", "   upgrade  ", " downgrade", " "}
	wrongs := []string{"x", "1000", "00", "1 x", "1 lock x", "-1", "1\tlock", "2 LOCK", "1\r", "a b c", "3 4"}
	d := dice(7)
	for range 3000 {
		var b strings.Builder
		for range d.below(60) {
			if d.below(100) == 0 {
				b.WriteString(wrongs[d.below(len(wrongs))])
			} else {
				first := firsts[d.below(len(firsts))]
				b.WriteString(first)
				if strings.TrimLeft(first, " ") != "" {
					b.WriteString(seconds[d.below(len(seconds))])
				}
			}
			b.WriteString("\n")
		}
		text := b.String()
		held(t, text)
		held(t, strings.TrimSuffix(text, "\n"))
	}
}

// P19.1: right texts with one byte changed, put in, or left out, held against the twin.
func TestOneByte(t *testing.T) {
	text := "3 rlock\n0\n\n# a 1\n 12  lock \n999 upgrade"
	for i := range len(text) + 1 {
		for b := range 256 {
			c := string([]byte{byte(b)})
			held(t, text[:i]+c+text[i:])
			if i < len(text) {
				held(t, text[:i]+c+text[i+1:])
			}
		}
		if i < len(text) {
			held(t, text[:i]+text[i+1:])
		}
		held(t, text[:i])
		held(t, text[i:])
	}
}
