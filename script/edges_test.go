package script_test

import (
	"fmt"
	"math"
	"slices"
	"testing"

	"stileman/api"
	"stileman/script"
)

// words are the operations' words, by their numbers.
func words() map[int]string {
	return map[int]string{
		api.RLock: "rlock", api.RUnlock: "runlock", api.Lock: "lock", api.Unlock: "unlock",
		api.TryRLock: "tryrlock", api.TryLock: "trylock", api.TryUpgrade: "upgrade", api.Downgrade: "downgrade",
	}
}

// isWord tells whether it is an operation's word.
func isWord(word string) bool {
	for _, w := range words() {
		if w == word {
			return true
		}
	}
	return false
}

// pick is a pick, in short.
func pick(task, op int) api.Pick {
	return api.Pick{Task: task, Op: op}
}

// beside are ints that aren't from low to high: those next to them, some whose lowest bits are as theirs, and the least and the greatest.
func beside(low, high int) []int {
	l := []int{low - 1, low - 2, low - 300, high + 1, high + 2, high + 300, 1 << 20, -1 << 20, math.MinInt, math.MinInt + 1, math.MaxInt - 1, math.MaxInt}
	for _, n := range []int{low, low + 1, high} {
		l = append(l, n+1<<16, n+1<<31, n+1<<32, n+1<<62, n+math.MinInt, n-1<<16, n-1<<32)
		if -n < low {
			l = append(l, -n)
		}
		if ^n < low {
			l = append(l, ^n)
		}
	}
	return l
}

// noOperations are numbers that are no operation, and aren't Rest.
func noOperations() []int {
	return append(beside(0, 8), 9, 10, -1, 11, 64, 256, 257, 264)
}

// noTasks are tasks that no line tells.
func noTasks() []int {
	return append(beside(0, 999), -1, 1000, 1001, 1023, 1024, -999, -1000, 9999)
}

// dice are numbers that look like chance, and are the same ones each time.
type dice uint64

// below answers the next one, from 0 to n - 1.
func (d *dice) below(n int) int {
	*d = *d*6364136223846793005 + 1442695040888963407
	return int(uint64(*d) >> 33 % uint64(n))
}

// short is a text, cut off where it is too long to be told.
func short(text string) string {
	if len(text) > 100 {
		return fmt.Sprintf("%q.. (%d bytes)", text[:100], len(text))
	}
	return fmt.Sprintf("%q", text)
}

// parses fails the test, unless the text is a script with these picks.
func parses(t *testing.T, text string, want ...api.Pick) {
	t.Helper()
	l, at, e := script.Parse(text)
	if e != api.OK || at != 0 || !slices.Equal(l, want) {
		t.Errorf("Parse(%s): %d picks, the line %d, %v: %v", short(text), len(l), at, e, l[:min(len(l), 10)])
	}
}

// refuses fails the test, unless the text is wrong in that line, for that reason, and answers no picks.
func refuses(t *testing.T, text string, line int, want api.Errno) {
	t.Helper()
	if l, at, e := script.Parse(text); len(l) != 0 || at != line || e != want {
		t.Errorf("Parse(%s): %d picks, the line %d, %v, want the line %d, %v", short(text), len(l), at, e, line, want)
	}
}

// refusesAnywhere does as refuses, with a line alone, ended or not, and with others around it.
func refusesAnywhere(t *testing.T, line string, want api.Errno) {
	t.Helper()
	refuses(t, line, 1, want)
	refuses(t, line+"\n", 1, want)
	refuses(t, "  "+line, 1, want)
	refuses(t, "0\n# x\n\n 1 lock\n"+line+"\n2 y\nz\n3 lock lock\n", 5, want)
}

// tells fails the test, unless the picks have that text.
func tells(t *testing.T, want string, l ...api.Pick) {
	t.Helper()
	if text, at, e := script.Text(l...); text != want || at != 0 || e != api.OK {
		t.Errorf("Text of %d picks, %v: %s, %d, %v, want %s", len(l), l[:min(len(l), 10)], short(text), at, e, short(want))
	}
}

// denies fails the test, unless the first of the picks that is wrong stands at that place, for that reason, and no text is answered.
func denies(t *testing.T, place int, want api.Errno, l ...api.Pick) {
	t.Helper()
	if text, at, e := script.Text(l...); text != "" || at != place || e != want {
		t.Errorf("Text of %d picks, %v: %s, %d, %v, want %d, %v", len(l), l[:min(len(l), 10)], short(text), at, e, place, want)
	}
}
