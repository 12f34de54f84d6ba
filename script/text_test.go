package script_test

import (
	"slices"
	"strconv"
	"testing"

	"stileman/api"
	"stileman/script"
)

// line is the line of a right pick, in another way than the package tells it.
func line(p api.Pick) string {
	if p.Op == api.Rest {
		return strconv.Itoa(p.Task) + "\n"
	}
	return strconv.Itoa(p.Task) + " " + words()[p.Op] + "\n"
}

// P19.2: the text of no pick, of one, and of several.
func TestText(t *testing.T) {
	tells(t, "")
	tells(t, "0\n", pick(0, 0))
	tells(t, "3 rlock\n0\n", pick(3, api.RLock), pick(0, api.Rest))
	tells(t, "9\n10\n99\n100\n999\n", pick(9, 0), pick(10, 0), pick(99, 0), pick(100, 0), pick(999, 0))
	tells(t, "0 rlock\n9 runlock\n10 lock\n99 unlock\n100 tryrlock\n999 trylock\n1 upgrade\n2 downgrade\n3\n",
		pick(0, 1), pick(9, 2), pick(10, 3), pick(99, 4), pick(100, 5), pick(999, 6), pick(1, 7), pick(2, 8), pick(3, 0))
	tells(t, "4 lock\n4 lock\n4\n4\n4 lock\n", pick(4, 3), pick(4, 3), pick(4, 0), pick(4, 0), pick(4, 3))
}

// P19.2: each task that a line can tell, with each operation, and Rest; Parse of the text tells the pick.
func TestEachText(t *testing.T) {
	var all []api.Pick
	text := ""
	for task := range 1000 {
		for op := range 9 {
			p := pick(task, op)
			tells(t, line(p), p)
			parses(t, line(p), p)
			all = append(all, p)
		}
	}
	for _, p := range all {
		text += line(p)
	}
	tells(t, text, all...)
	parses(t, text, all...)
}

// P19.2: Parse of the text of picks tells these, of lists of each length up to some hundreds.
func TestThereAndBack(t *testing.T) {
	d := dice(3)
	for n := range 300 {
		l := make([]api.Pick, n)
		want := ""
		for i := range l {
			l[i] = pick(d.below(1000), d.below(9))
			want += line(l[i])
		}
		tells(t, want, l...)
		parses(t, want, l...)
	}
}

// P19.2: the text of what was parsed has one blank between words, no quiet lines, and a last line feed.
func TestBackAndThere(t *testing.T) {
	l, _, _ := script.Parse("# a lock\n 3  rlock \n\n0\n999 downgrade\n#\n  12")
	tells(t, "3 rlock\n0\n999 downgrade\n12\n", l...)
}

// P19.2: a task below 0, or above 999, with any operation, or none.
func TestTextErrRange(t *testing.T) {
	for _, task := range noTasks() {
		for _, op := range append(noOperations(), 0, 1, 2, 3, 4, 5, 6, 7, 8) {
			denies(t, 0, api.ErrRange, pick(task, op))
			denies(t, 2, api.ErrRange, pick(0, 1), pick(999, 0), pick(task, op), pick(1, 1))
		}
	}
}

// P19.2: an operation that is none, of a task that a line can tell.
func TestTextErrWord(t *testing.T) {
	for _, op := range noOperations() {
		for _, task := range []int{0, 1, 9, 10, 63, 64, 99, 100, 998, 999} {
			denies(t, 0, api.ErrWord, pick(task, op))
			denies(t, 2, api.ErrWord, pick(0, 1), pick(999, 0), pick(task, op), pick(1, 1))
		}
	}
}

// P19.2: of several wrong picks, the place of the first one, whichever error it has.
func TestFirstWrong(t *testing.T) {
	denies(t, 0, api.ErrRange, pick(-1, 0), pick(0, 9))
	denies(t, 0, api.ErrWord, pick(0, 9), pick(-1, 0))
	denies(t, 1, api.ErrRange, pick(0, 0), pick(1000, 99), pick(0, 9))
	denies(t, 1, api.ErrWord, pick(0, 0), pick(0, -1), pick(1000, 99))
	for _, n := range []int{1, 2, 3, 100, 5000} {
		for _, place := range []int{0, n / 3, n - 1} {
			for _, e := range []api.Errno{api.ErrRange, api.ErrWord} {
				l := make([]api.Pick, n)
				for i := range l {
					switch {
					case i < place:
						l[i] = pick(i%1000, i%9)
					case i == place && e == api.ErrWord:
						l[i] = pick(i%1000, 9+i)
					case i == place:
						l[i] = pick(1000+i, i%9)
					default:
						l[i] = [...]api.Pick{pick(5, 5), pick(5, -5), pick(-5, 5), pick(-5, -5)}[i%4]
					}
				}
				denies(t, place, e, l...)
			}
		}
	}
}

// R4: Text leaves its picks as they are, and reads nothing behind them.
func TestTextLeaves(t *testing.T) {
	l := []api.Pick{pick(1, 2), pick(3, 4), pick(-1, 99), pick(-2, 98)}
	was := slices.Clone(l)
	tells(t, "1 runlock\n3 unlock\n", l[:2]...)
	denies(t, 2, api.ErrRange, l...)
	if !slices.Equal(l, was) {
		t.Errorf("%v, and was %v", l, was)
	}
}
