package script_test

import (
	"fmt"
	"math"
	"slices"
	"testing"

	"stileman/api"
	"stileman/script"
)

// rounds fails the test, unless Rounds answers these picks.
func rounds(t *testing.T, n int, turns []uint8, ops []int, want ...api.Pick) {
	t.Helper()
	if l := script.Rounds(n, turns, ops...); !slices.Equal(l, want) {
		t.Errorf("Rounds(%d, %v, %v): %v, want %v", n, turns, ops, l, want)
	}
}

// P19.3: rounds worked out by hand.
func TestRounds(t *testing.T) {
	rounds(t, 1, []uint8{0}, nil, pick(0, 0))
	rounds(t, 1, []uint8{255}, []int{3}, pick(0, 3))
	rounds(t, 1, []uint8{7, 0, 255}, []int{3, 4}, pick(0, 3), pick(0, 4), pick(0, 3))
	rounds(t, 2, []uint8{0, 1}, nil, pick(0, 0), pick(1, 0), pick(1, 0), pick(0, 0))
	rounds(t, 2, []uint8{1}, []int{8}, pick(1, 8), pick(0, 8))
	rounds(t, 3, []uint8{0, 4}, []int{1, 3}, pick(0, 1), pick(1, 3), pick(2, 1), pick(1, 3), pick(2, 1), pick(0, 3))
	rounds(t, 3, []uint8{2, 255}, []int{1, 2, 3, 4}, pick(2, 1), pick(0, 2), pick(1, 3), pick(0, 4), pick(1, 1), pick(2, 2))
	rounds(t, 4, []uint8{254}, []int{5, 6, 7, 8, 0, 1}, pick(2, 5), pick(3, 6), pick(0, 7), pick(1, 8))
	rounds(t, 3, []uint8{1, 1}, []int{1, 0}, pick(1, 1), pick(2, 0), pick(0, 1), pick(1, 0), pick(2, 1), pick(0, 0))
}

// P19.3: a turn and a place together may be more than 255: the task is that sum's modulo.
func TestTurnsGoOn(t *testing.T) {
	l := script.Rounds(60, []uint8{250})
	for i, task := range []int{10, 11, 12, 13, 14, 15, 16, 17, 18, 19, 20} {
		if l[i].Task != task {
			t.Errorf("the pick %d of 60 tasks from the turn 250 on is of %d, want %d", i, l[i].Task, task)
		}
	}
	if l[49].Task != 59 || l[50].Task != 0 || l[59].Task != 9 {
		t.Errorf("%v", l)
	}
}

// chapter is the pick that stands at k, as the chapter's words have it.
func chapter(n int, turns []uint8, ops []int, k int) api.Pick {
	p := api.Pick{Task: (int(turns[k/n]) + k%n) % n}
	if len(ops) > 0 {
		p.Op = ops[k%len(ops)]
	}
	return p
}

// keeps fails the test, unless what Rounds answers is, pick by pick, what the chapter's words tell.
func keeps(t *testing.T, n int, turns []uint8, ops []int) {
	t.Helper()
	l := script.Rounds(n, turns, ops...)
	if len(l) != n*len(turns) {
		t.Fatalf("Rounds(%d, %d turns, %v): %d picks", n, len(turns), ops, len(l))
	}
	for k, p := range l {
		if want := chapter(n, turns, ops, k); p != want {
			t.Fatalf("Rounds(%d, %v, %v): at %d %v, want %v", n, turns, ops, k, p, want)
		}
	}
}

// someTurns are lists of turns: none, one, and many, with the edges, and with all of them.
func someTurns() [][]uint8 {
	all := make([]uint8, 256)
	for i := range all {
		all[i] = uint8(i)
	}
	down := slices.Clone(all)
	slices.Reverse(down)
	return [][]uint8{nil, {}, {0}, {1}, {63}, {64}, {127}, {128}, {254}, {255}, {0, 0}, {0, 255}, {255, 0}, {3, 1, 4, 1, 5}, {200, 201, 202, 255, 255}, all, down, slices.Concat(all, down, all)}
}

// P19.3: each number of tasks, by no turn, one, and many, with no operation, one, and more and fewer than there are picks.
func TestEachRound(t *testing.T) {
	for n := 1; n <= 64; n++ {
		for _, turns := range someTurns() {
			picks := n * len(turns)
			for _, many := range []int{0, 1, 2, 3, 7, 8, n - 1, n, n + 1, picks - 1, picks, picks + 1, 2*picks + 3} {
				if many < 0 {
					continue
				}
				ops := make([]int, many)
				for i := range ops {
					ops[i] = 1000 + i
				}
				keeps(t, n, turns, ops)
			}
		}
	}
}

// P19.3: in each round there is one pick of each task.
func TestEachTaskOnce(t *testing.T) {
	for n := 1; n <= 64; n++ {
		for _, turns := range someTurns() {
			l := script.Rounds(n, turns, 1, 2, 3)
			for round := range turns {
				seen := map[int]bool{}
				for _, p := range l[round*n : round*n+n] {
					seen[p.Task] = true
				}
				if len(seen) != n {
					t.Fatalf("the round %d of %d tasks: %v", round, n, l[round*n:round*n+n])
				}
			}
		}
	}
}

// P19.3: no turn makes no pick.
func TestNoTurn(t *testing.T) {
	for n := 1; n <= 64; n++ {
		rounds(t, n, nil, nil)
		rounds(t, n, []uint8{}, []int{1, 2})
		rounds(t, n, make([]uint8, 0, 9), []int{1, 2})
	}
}

// P19.3: a number of tasks that isn't from 1 to 64 makes no pick.
func TestNoRounds(t *testing.T) {
	for _, n := range append(beside(1, 64), 0, -1, 65, 66, 128, 256, 257, -64, math.MinInt, math.MaxInt) {
		for _, turns := range someTurns() {
			rounds(t, n, turns, nil)
			rounds(t, n, turns, []int{3})
			rounds(t, n, turns, []int{1, 2, 3})
		}
	}
	if len(script.Rounds(64, []uint8{1})) != 64 || len(script.Rounds(1, []uint8{1})) != 1 {
		t.Error("64 tasks, or one")
	}
}

// P19.3: operations are told as they are, also those that are none.
func TestRoundsAnyOps(t *testing.T) {
	ops := append(noOperations(), 0, 1, 8)
	keeps(t, 5, []uint8{0, 1, 2, 3, 4, 250, 251, 252, 253, 254, 255}, ops)
	keeps(t, 64, []uint8{17, 255}, ops)
	keeps(t, 2, []uint8{9}, []int{0})
	keeps(t, 2, []uint8{9}, []int{math.MinInt, math.MaxInt})
}

// P19.3: rounds are scripts: what they tell has a text, of which Parse tells the picks.
func TestRoundsAsTexts(t *testing.T) {
	for n := 1; n <= 64; n++ {
		l := script.Rounds(n, []uint8{0, 3, 255, 17}, 0, 1, 2, 3, 4, 5, 6, 7, 8)
		want := ""
		for _, p := range l {
			want += line(p)
		}
		tells(t, want, l...)
		parses(t, want, l...)
	}
}

// P19.3: more rounds than a text may have picks.
func TestManyRounds(t *testing.T) {
	turns := make([]uint8, 1<<15)
	for i := range turns {
		turns[i] = uint8(i * 37)
	}
	keeps(t, 64, turns, []int{3, 4, 0})
}

// R4: Rounds leaves its turns and operations as they are, and reads nothing behind them.
func TestRoundsLeave(t *testing.T) {
	turns, ops := []uint8{1, 2, 77, 78}, []int{1, 2, 77, 78}
	rounds(t, 2, turns[:2], ops[:2], pick(1, 1), pick(0, 2), pick(0, 1), pick(1, 2))
	if fmt.Sprint(turns, ops) != "[1 2 77 78] [1 2 77 78]" {
		t.Errorf("%v, %v", turns, ops)
	}
}

// R4, R6: each answer is new memory, and the same one each time.
func TestAgain(t *testing.T) {
	for range 3 {
		l, at, e := script.Parse("3 rlock\n0\n5 lock")
		if at != 0 || e != api.OK || !slices.Equal(l, []api.Pick{pick(3, 1), pick(0, 0), pick(5, 3)}) {
			t.Errorf("%v, %d, %v", l, at, e)
		}
		spoil(l)
		turns, ops := []uint8{1}, []int{1, 2}
		l = script.Rounds(3, turns, ops...)
		turns[0], ops[0], ops[1] = 9, 9, 9
		if !slices.Equal(l, []api.Pick{pick(1, 1), pick(2, 2), pick(0, 1)}) {
			t.Errorf("%v", l)
		}
		spoil(l)
		turns[0], ops[0], ops[1] = 1, 1, 2
		tells(t, "1 lock\n", pick(1, 3))
		refuses(t, "1\nx", 2, api.ErrForm)
		denies(t, 1, api.ErrWord, pick(1, 3), pick(1, 9))
	}
}

// spoil writes over all picks, and behind them.
func spoil(l []api.Pick) {
	for i := range l {
		l[i] = pick(-7, -7)
	}
	l = append(l[:cap(l)], pick(-8, -8))
	clear(l)
}
