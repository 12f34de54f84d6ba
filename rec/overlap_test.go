package rec_test

import (
	"math"
	"testing"

	"stileman/api"
	"stileman/rec"
)

// overlaps fails the test, unless Overlap of the places answers want, either way round, and whatever the calls tell besides.
func overlaps(t *testing.T, from, to, from2, to2 int, want bool) {
	t.Helper()
	a, b := api.Call{From: from, To: to}, api.Call{From: from2, To: to2}
	a2 := call(64, -1, from, to, math.MaxInt, 7, -7, 0)
	b2 := call(math.MinInt, api.Lock, from2, to2, api.RetTrue, math.MinInt)
	for _, x := range []api.Call{a, a2} {
		for _, y := range []api.Call{b, b2} {
			if rec.Overlap(x, y) != want || rec.Overlap(y, x) != want {
				t.Fatalf("Overlap of %d to %d and %d to %d: %v, and %v the other way round, want %v", from, to, from2, to2, rec.Overlap(x, y), rec.Overlap(y, x), want)
			}
		}
	}
}

// P20.3: calls that are apart, that touch, that lie in each other, and that are alike.
func TestOverlap(t *testing.T) {
	for _, x := range []struct {
		from, to, from2, to2 int
		want                 bool
	}{
		{0, 1, 2, 3, false},
		{0, 1, 3, 4, false},
		{0, 1, 1000, 1001, false},
		{5, 9, 10, 20, false},
		{0, 5, 5, 9, true},
		{0, 5, 4, 9, true},
		{0, 5, 1, 9, true},
		{0, 9, 1, 5, true},
		{0, 9, 0, 5, true},
		{0, 9, 5, 9, true},
		{0, 9, 0, 9, true},
		{3, 4, 3, 4, true},
		{0, 0, 0, 0, true},
		{0, 0, 1, 1, false},
		{0, 0, 0, 1, true},
		{7, 7, 7, 7, true},
		{7, 7, 8, 8, false},
		{1<<20 - 2, 1<<20 - 1, 0, 1<<20 - 1, true},
		{1<<20 - 2, 1<<20 - 1, 0, 1<<20 - 2, true},
		{1<<20 - 2, 1<<20 - 1, 0, 1<<20 - 3, false},
	} {
		overlaps(t, x.from, x.to, x.from2, x.to2, x.want)
	}
}

// P20.3: calls of which one, or both, haven't returned.
func TestOverlapOpen(t *testing.T) {
	for _, none := range []int{-1, -2, -5, -64, math.MinInt32, math.MinInt, math.MinInt + 1} {
		overlaps(t, 5, none, 0, 4, false)
		overlaps(t, 5, none, 0, 5, true)
		overlaps(t, 5, none, 0, 6, true)
		overlaps(t, 5, none, 4, 9, true)
		overlaps(t, 5, none, 5, 9, true)
		overlaps(t, 5, none, 6, 9, true)
		overlaps(t, 5, none, 1000, 1001, true)
		overlaps(t, 0, none, 0, 0, true)
		overlaps(t, 1, none, 0, 0, false)
		for _, other := range []int{-1, -3, math.MinInt} {
			overlaps(t, 5, none, 0, other, true)
			overlaps(t, 5, none, 5, other, true)
			overlaps(t, 5, none, 1<<40, other, true)
		}
	}
}

// P20.3: any numbers in the places, held against the chapter's words.
func TestOverlapOfAny(t *testing.T) {
	places := []int{math.MinInt, math.MinInt + 1, -1 << 32, -3, -2, -1, 0, 1, 2, 3, 1 << 32, math.MaxInt - 1, math.MaxInt}
	for _, from := range places {
		for _, to := range places {
			for _, from2 := range places {
				for _, to2 := range places {
					over := to >= 0 && to < from2
					over2 := to2 >= 0 && to2 < from
					overlaps(t, from, to, from2, to2, !over && !over2)
				}
			}
		}
	}
}

// P20.3: places that can't be, worked out by hand: a To that is below its own From, and a From below 0.
func TestOverlapWrong(t *testing.T) {
	overlaps(t, 9, 2, 5, 7, false)
	overlaps(t, 9, 2, 2, 9, true)
	overlaps(t, 9, 2, 3, 9, false)
	overlaps(t, 9, 2, 9, 2, false)
	overlaps(t, -5, 0, -3, -1, true)
	overlaps(t, -5, 0, 0, -1, true)
	overlaps(t, -5, 0, 1, -1, false)
	overlaps(t, -5, -4, -3, -2, true)
	overlaps(t, math.MinInt, math.MaxInt, math.MaxInt, math.MinInt, true)
	overlaps(t, math.MinInt, math.MaxInt-1, math.MaxInt, math.MinInt, false)
	overlaps(t, math.MaxInt, 0, math.MaxInt, 0, false)
	overlaps(t, math.MinInt, 0, math.MinInt, 0, true)
	overlaps(t, math.MaxInt, math.MaxInt, math.MaxInt, math.MaxInt, true)
	overlaps(t, math.MinInt, math.MinInt, math.MinInt, math.MinInt, true)
	overlaps(t, math.MinInt, math.MinInt, math.MaxInt, math.MaxInt, true)
	overlaps(t, math.MinInt, 0, math.MaxInt, math.MaxInt, false)
}

// P20.3: the calls of a history: those that were under way at the same time, and no others.
func TestOverlapOfCalls(t *testing.T) {
	c := rec.Calls(history(t,
		"0 call rlock", "1 call lock", "0 return rlock true", "2 call lock", "1 return lock true",
		"0 call runlock", "0 return runlock true", "2 return lock true", "3 call rlock",
	))
	// By their places: 0 to 2, 1 to 4, 3 to 7, 5 to 6, from 8 on.
	want := []string{
		"xx...",
		"xxx..",
		".xxx.",
		"..xx.",
		"....x",
	}
	if len(c) != len(want) {
		t.Fatal(c)
	}
	for i, row := range want {
		for k, x := range row {
			if rec.Overlap(c[i], c[k]) != (x == 'x') {
				t.Errorf("Overlap of %+v and %+v: %v", c[i], c[k], rec.Overlap(c[i], c[k]))
			}
		}
	}
}
