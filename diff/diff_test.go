package diff_test

import (
	"math"
	"slices"
	"testing"

	"stileman/diff"
)

const (
	top  = math.MaxUint32
	half = 1 << 31
)

// field is a shift and a width.
type field struct{ shift, width int }

// fields are all that are fields of a word.
func fields() []field {
	var l []field
	for shift := range 32 {
		for width := 1; shift+width <= 32; width++ {
			l = append(l, field{shift, width})
		}
	}
	return l
}

// noFields are some that are none; each of the far numbers also stands with one that brings the sum back, round the int.
func noFields() []field {
	l := []field{
		{0, 0}, {5, 0}, {31, 0}, {32, 0}, {0, -1}, {8, -8}, {31, -31},
		{-1, 1}, {-1, 4}, {-1, 32}, {-1, 33}, {-8, 8}, {-31, 32},
		{32, 1}, {33, 1}, {32, -1}, {40, -20}, {32, 32}, {64, 8}, {256, 8},
		{0, 33}, {0, 34}, {0, 64}, {1, 33}, {0, 256},
		{1, 32}, {31, 2}, {16, 17}, {17, 16}, {31, 32}, {24, 9},
		{math.MaxInt, math.MaxInt}, {math.MinInt, math.MinInt},
		{math.MaxInt, math.MinInt}, {math.MinInt, math.MaxInt},
	}
	for _, far := range []int{math.MaxInt, math.MinInt, 1 << 32, 1<<32 + 8, -1 << 32} {
		for _, n := range []int{0, 1, 8, 31, 32, -1} {
			l = append(l, field{far, n}, field{n, far}, field{far, n - far}, field{n - far, far})
		}
	}
	return l
}

// words are some whose bits are of all sorts.
func words() []uint32 {
	return []uint32{0, 1, 2, 5, 0xff, 0xff00, 0x12345678, 0xaaaaaaaa, 0x55555555, 1<<31 - 1, 1 << 31, 1<<31 + 1, 0xdeadbeef, top - 1, top}
}

// in tells whether the bit is one of the field's.
func (f field) in(bit int) bool { return bit >= f.shift && bit < f.shift+f.width }

// get reads the field bit by bit.
func (f field) get(v uint32) uint64 {
	n := uint64(0)
	for bit := 31; bit >= 0; bit-- {
		if f.in(bit) {
			n = 2*n + uint64(v>>bit&1)
		}
	}
	return n
}

// put writes the lowest bits of x into the field bit by bit.
func (f field) put(v uint32, x uint64) uint32 {
	left := uint32(0)
	for bit := range 32 {
		if f.in(bit) {
			left |= uint32(x>>(bit-f.shift)&1) << bit
		} else {
			left |= v & (1 << bit)
		}
	}
	return left
}

// P2.1: Ahead of words that don't go round, that do, and of those 2^31 apart.
func TestAhead(t *testing.T) {
	for _, x := range []struct {
		a, b uint32
		want int
	}{
		{0, 0, 0}, {5, 5, 0}, {top, top, 0}, {half, half, 0},
		{6, 5, 1}, {5, 6, -1}, {1000, 10, 990}, {10, 1000, -990},
		{1, top, 2}, {top, 1, -2}, {0, top, 1}, {top, 0, -1}, {9, top - 9, 19}, {top - 9, 9, -19},
		{half - 1, 0, half - 1}, {0, half - 1, -(half - 1)},
		{half + 1, 0, -(half - 1)}, {0, half + 1, half - 1},
		{half, half - 1, 1}, {half - 1, half, -1},
		{half, 0, -half}, {0, half, -half}, {half + 7, 7, -half}, {7, half + 7, -half}, {top, half - 1, -half}, {half - 1, top, -half},
	} {
		if got := diff.Ahead(x.a, x.b); got != x.want {
			t.Errorf("Ahead(%#x, %#x) is %d, want %d", x.a, x.b, got, x.want)
		}
	}
}

// P2.1: what Ahead tells is from -2^31 to 2^31 - 1 and makes a of b, of any two words.
func TestAheadMakesA(t *testing.T) {
	for _, a := range words() {
		for _, b := range words() {
			n := diff.Ahead(a, b)
			if n < -half || n > half-1 || b+uint32(n) != a {
				t.Errorf("Ahead(%#x, %#x) is %d", a, b, n)
			}
		}
	}
}

// P2.1: Least.
func TestLeast(t *testing.T) {
	for _, x := range []struct {
		from uint32
		l    []uint32
		want int
	}{
		{10, nil, -1}, {0, []uint32{}, -1}, {top, nil, -1},
		{10, []uint32{10}, 0}, {10, []uint32{9}, 0}, {0, []uint32{top}, 0}, {top, []uint32{0}, 0},
		{0, []uint32{3, 2, 1}, 2}, {0, []uint32{1, 2, 3}, 0}, {0, []uint32{2, 1, 3}, 1},
		// What from has passed comes last, when it comes round again.
		{10, []uint32{9, 11, 10}, 2}, {10, []uint32{9, 12, 11}, 2}, {10, []uint32{9, 8, 0}, 2}, {10, []uint32{9, top}, 1}, {10, []uint32{top, 9}, 0},
		{0xfffffff0, []uint32{3, 0xfffffff5, 1}, 1}, {0xfffffff0, []uint32{3, 0xffffffef, 1}, 2}, {top, []uint32{top - 1, 1, 0}, 2}, {top, []uint32{0, top}, 1},
		// It counts up to 2^32 - 1, and not to both sides, as Ahead does.
		{0, []uint32{top, half}, 1}, {0, []uint32{half, half - 1}, 1}, {0, []uint32{half + 1, half}, 1}, {0, []uint32{half - 1, half}, 0}, {100, []uint32{99, half + 100, half + 101}, 1},
		{half, []uint32{half - 1, 0, top}, 2},
	} {
		if got := diff.Least(x.from, x.l...); got != x.want {
			t.Errorf("Least(%#x, %#x) is %d, want %d", x.from, x.l, got, x.want)
		}
	}
}

// P2.1: of several words that are least, the first one.
func TestLeastFirst(t *testing.T) {
	for _, x := range []struct {
		from uint32
		l    []uint32
		want int
	}{
		{5, []uint32{7, 7}, 0}, {5, []uint32{5, 5, 5}, 0}, {5, []uint32{4, 4}, 0}, {5, []uint32{0, 0}, 0},
		{5, []uint32{9, 7, 8, 7}, 1}, {5, []uint32{4, 9, 6, 4, 6, 6}, 2}, {top, []uint32{1, 0, 1, 0}, 1}, {half, []uint32{0, top, 0, top}, 1},
	} {
		if got := diff.Least(x.from, x.l...); got != x.want {
			t.Errorf("Least(%#x, %#x) is %d, want %d", x.from, x.l, got, x.want)
		}
	}
}

// P2.1: the least one is found at each place of a long list, wherever the words go round.
func TestLeastEachPlace(t *testing.T) {
	const n = 300
	for _, from := range []uint32{0, 1, half - 150, half, top - 150, top} {
		for place := range n {
			l := make([]uint32, n)
			for i := range l {
				l[i] = from + 1000 + uint32(i*7%n)
			}
			l[place] = from + 3
			if got := diff.Least(from, l...); got != place {
				t.Fatalf("Least(%#x) of a list that has it at %d is %d", from, place, got)
			}
		}
	}
}

// R4: the list is left as it is, and what lies behind its length is not looked at.
func TestLeastLeavesTheList(t *testing.T) {
	long := []uint32{9, 8, 7, 5, 6}
	if got := diff.Least(5, long[:3]...); got != 2 {
		t.Fatal(got)
	}
	if got := diff.Least(5, long[:0]...); got != -1 {
		t.Fatal(got)
	}
	if !slices.Equal(long, []uint32{9, 8, 7, 5, 6}) {
		t.Fatal(long)
	}
}

// P2.2: Get.
func TestGet(t *testing.T) {
	for _, x := range []struct {
		v            uint32
		shift, width int
		want         uint32
	}{
		{0x12345678, 8, 8, 0x56}, {0x12345678, 0, 8, 0x78}, {0x12345678, 24, 8, 0x12}, {0x12345678, 4, 12, 0x567},
		{0x12345678, 0, 32, 0x12345678}, {top, 0, 32, top}, {0, 0, 32, 0},
		{1 << 31, 31, 1, 1}, {1<<31 - 1, 31, 1, 0}, {1, 0, 1, 1}, {top - 1, 0, 1, 0}, {0x10, 4, 1, 1}, {0xffffffef, 4, 1, 0},
		{top, 1, 31, 1<<31 - 1}, {1 << 31, 1, 31, 1 << 30}, {top, 0, 31, 1<<31 - 1}, {0xc0000000, 30, 2, 3},
	} {
		if got := diff.Get(x.v, x.shift, x.width); got != x.want {
			t.Errorf("Get(%#x, %d, %d) is %#x, want %#x", x.v, x.shift, x.width, got, x.want)
		}
	}
}

// P2.2: Put.
func TestPut(t *testing.T) {
	for _, x := range []struct {
		v            uint32
		shift, width int
		x, want      uint32
	}{
		{0x12345678, 8, 8, 0xfab, 0x1234ab78}, {0x12345678, 8, 8, 0, 0x12340078}, {0x12345678, 8, 8, top, 0x1234ff78}, {0x12345678, 8, 8, 0x100, 0x12340078},
		{0x12345678, 24, 8, 0x9ff, 0xff345678}, {0x12345678, 0, 8, 0x9ff, 0x123456ff},
		{0, 0, 32, 9, 9}, {top, 0, 32, 9, 9}, {9, 0, 32, top, top}, {9, 0, 32, 0, 0},
		{0, 31, 1, 1, 1 << 31}, {0, 31, 1, 2, 0}, {top, 31, 1, 0, 1<<31 - 1}, {top, 31, 1, 6, 1<<31 - 1}, {0, 0, 1, 3, 1}, {top, 0, 1, 2, top - 1},
		{0, 1, 31, top, top - 1}, {1, 1, 31, 0, 1}, {top, 1, 31, 1 << 31, 1},
	} {
		if got := diff.Put(x.v, x.shift, x.width, x.x); got != x.want {
			t.Errorf("Put(%#x, %d, %d, %#x) is %#x, want %#x", x.v, x.shift, x.width, x.x, got, x.want)
		}
	}
}

// P2.2: Bump.
func TestBump(t *testing.T) {
	for _, x := range []struct {
		v            uint32
		shift, width int
		want         uint32
	}{
		{0xff00, 8, 8, 0xffff0100}, {0x1234, 8, 8, 0x100}, {0xff34, 8, 8, 0xffff0100}, {0xfeff, 8, 8, 0x100},
		{0, 0, 1, 1}, {1, 0, 1, top}, {0, 31, 1, half}, {half, 31, 1, half}, {0, 4, 1, 0x10}, {0x10, 4, 1, 0xfffffff0},
		{0, 0, 32, 1}, {top, 0, 32, 1}, {half - 1, 0, 32, 1}, {7, 0, 3, 0xfffffff9},
		{0xffffffff, 24, 8, 0x01000000}, {0xfe123456, 24, 8, 0x01000000}, {top, 1, 31, 2}, {top, 0, 31, half + 1},
	} {
		if got := diff.Bump(x.v, x.shift, x.width); got != x.want {
			t.Errorf("Bump(%#x, %d, %d) is %#x, want %#x", x.v, x.shift, x.width, got, x.want)
		}
	}
}

// P2.2: all fields of a word, read and written bit by bit beside it.
func TestAllFields(t *testing.T) {
	for _, f := range fields() {
		for _, v := range words() {
			if got := diff.Get(v, f.shift, f.width); uint64(got) != f.get(v) {
				t.Errorf("Get(%#x, %d, %d) is %#x", v, f.shift, f.width, got)
			}
			if got := v + diff.Bump(v, f.shift, f.width); got != f.put(v, f.get(v)+1) {
				t.Errorf("Bump(%#x, %d, %d) makes %#x", v, f.shift, f.width, got)
			}
			for _, x := range words() {
				if got := diff.Put(v, f.shift, f.width, x); got != f.put(v, uint64(x)) {
					t.Errorf("Put(%#x, %d, %d, %#x) is %#x", v, f.shift, f.width, x, got)
				}
			}
		}
	}
}

// P2.2: a field that is bumped goes through all its numbers, and then is as it was.
func TestBumpRound(t *testing.T) {
	for _, f := range []field{{0, 1}, {31, 1}, {12, 1}, {0, 8}, {8, 8}, {24, 8}, {28, 4}} {
		for _, v := range words() {
			at := v
			for i := range uint32(1) << f.width {
				want := f.put(v, f.get(v)+uint64(i))
				if at != want {
					t.Fatalf("%#x, bumped %d times in %+v, is %#x, want %#x", v, i, f, at, want)
				}
				at += diff.Bump(at, f.shift, f.width)
			}
			if at != v {
				t.Errorf("%#x, bumped round %+v, is %#x", v, f, at)
			}
		}
	}
}

// P2.2: what is no field has no bits, takes none, and has nothing to be added.
func TestNoField(t *testing.T) {
	for _, f := range noFields() {
		for _, v := range words() {
			if got := diff.Get(v, f.shift, f.width); got != 0 {
				t.Errorf("Get(%#x, %d, %d) is %#x", v, f.shift, f.width, got)
			}
			if got := diff.Bump(v, f.shift, f.width); got != 0 {
				t.Errorf("Bump(%#x, %d, %d) is %#x", v, f.shift, f.width, got)
			}
			for _, x := range []uint32{0, 1, 0x12345678, top} {
				if got := diff.Put(v, f.shift, f.width, x); got != v {
					t.Errorf("Put(%#x, %d, %d, %#x) is %#x", v, f.shift, f.width, x, got)
				}
			}
		}
	}
}

// P2.3: Ahead tells the distance up to 2^31 - 1, to both sides, wherever the two go round.
func TestAheadDistance(t *testing.T) {
	for _, b := range append(words(), half-5, half+5, top-5) {
		for _, n := range []int{0, 1, 2, 5, 6, 255, 256, 1 << 16, 1<<30 - 1, 1 << 30, 1<<30 + 1, half - 3, half - 2, half - 1} {
			a := b + uint32(n)
			if got := diff.Ahead(a, b); got != n {
				t.Errorf("Ahead(%#x, %#x) is %d, want %d", a, b, got, n)
			}
			if got := diff.Ahead(b, a); got != -n {
				t.Errorf("Ahead(%#x, %#x) is %d, want %d", b, a, got, -n)
			}
		}
	}
}

// P2.3: it hangs on nothing but the distance, step by step through the place where words go round.
func TestAheadSteps(t *testing.T) {
	for _, n := range []int{0, 1, 100, half - 1} {
		for _, middle := range []uint32{0, half} {
			for b := middle - 200; b != middle+200; b++ {
				if got := diff.Ahead(b+uint32(n), b); got != n {
					t.Fatalf("Ahead of %#x by %d is %d", b, n, got)
				}
			}
		}
	}
}
