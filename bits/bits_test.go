package bits_test

import (
	"math"
	mathbits "math/bits"
	"slices"
	"testing"

	"flotsam/bits"
)

// row is a mask, and the numbers that it has, rising.
type row struct {
	m  uint32
	ns []int
}

// rows are worked out by hand from the chapter.
var rows = []row{
	{0, nil},
	{1, []int{0}},
	{2, []int{1}},
	{3, []int{0, 1}},
	{12, []int{2, 3}},
	{0x50, []int{4, 6}},
	{0xf0f0, []int{4, 5, 6, 7, 12, 13, 14, 15}},
	{0x10000, []int{16}},
	{1 << 30, []int{30}},
	{1 << 31, []int{31}},
	{1<<31 + 1, []int{0, 31}},
	{0x80008001, []int{0, 15, 31}},
	{math.MaxUint32, []int{
		0, 1, 2, 3, 4, 5, 6, 7, 8, 9, 10, 11, 12, 13, 14, 15,
		16, 17, 18, 19, 20, 21, 22, 23, 24, 25, 26, 27, 28, 29, 30, 31,
	}},
}

// wrong are numbers that no mask has: beside the edges, and such as would be 0 to 31 in fewer bits.
var wrong = []int{
	-1, -2, -31, -32, -33, -63, -64, -256,
	32, 33, 34, 63, 64, 65, 96, 127, 128, 255, 256, 256 + 3,
	1 << 16, 1<<16 + 5, 1 << 32, 1<<32 + 2, 1<<32 + 31, -1 << 32, -1<<32 + 4,
	math.MaxInt32, math.MinInt32, math.MaxInt, math.MaxInt - 1, math.MinInt, math.MinInt + 1, math.MinInt + 7,
}

// someMasks are those of rows, the least and the greatest ones, those of two bits or of all but two, and runs of bits.
func someMasks() []uint32 {
	var l []uint32
	for _, r := range rows {
		l = append(l, r.m)
	}
	for i := range uint32(1024) {
		l = append(l, i, math.MaxUint32-i, i*0x9e3779b1)
	}
	for i := range 32 {
		for j := range i + 1 {
			two := uint32(1)<<i | uint32(1)<<j
			run := uint32(1)<<i - uint32(1)<<j
			l = append(l, two, ^two, run, ^run)
		}
	}
	return l
}

// numbers answers those that m has, rising, told from a quotient, with no call of the package.
func numbers(m uint32) []int {
	var l []int
	for n := 0; m > 0; n++ {
		if m%2 == 1 {
			l = append(l, n)
		}
		m /= 2
	}
	return l
}

// has tells by Has of each number which ones m has.
func has(m uint32) []int {
	var l []int
	for n := range 32 {
		if bits.Has(m, n) {
			l = append(l, n)
		}
	}
	return l
}

// TestHas is of P3.1: just the numbers of 0 to 31 that a mask has.
func TestHas(t *testing.T) {
	for _, r := range rows {
		if l := has(r.m); !slices.Equal(l, r.ns) {
			t.Errorf("Has(%#x): %v, not %v", r.m, l, r.ns)
		}
	}
	for _, m := range someMasks() {
		if l := has(m); !slices.Equal(l, numbers(m)) {
			t.Errorf("Has(%#x): %v", m, l)
		}
	}
}

// TestWith is of P3.1: the number is added, whether or not it was there.
func TestWith(t *testing.T) {
	for _, x := range []struct {
		m    uint32
		n    int
		want uint32
	}{
		{0, 0, 1}, {1, 0, 1}, {0, 5, 32}, {12, 2, 12}, {12, 0, 13}, {12, 4, 28},
		{0, 31, 1 << 31}, {1 << 31, 31, 1 << 31}, {1<<31 - 1, 31, math.MaxUint32},
		{math.MaxUint32 - 1, 0, math.MaxUint32}, {math.MaxUint32, 17, math.MaxUint32},
	} {
		if m := bits.With(x.m, x.n); m != x.want {
			t.Errorf("With(%#x, %d): %#x, not %#x", x.m, x.n, m, x.want)
		}
	}
}

// TestWithout is of P3.1: the number is taken away, whether or not it was there.
func TestWithout(t *testing.T) {
	for _, x := range []struct {
		m    uint32
		n    int
		want uint32
	}{
		{1, 0, 0}, {0, 0, 0}, {32, 5, 0}, {12, 2, 8}, {12, 3, 4}, {12, 0, 12}, {12, 4, 12},
		{1 << 31, 31, 0}, {1 << 31, 30, 1 << 31}, {0, 31, 0}, {math.MaxUint32, 31, 1<<31 - 1},
		{math.MaxUint32, 0, math.MaxUint32 - 1}, {math.MaxUint32, 17, 0xfffdffff},
	} {
		if m := bits.Without(x.m, x.n); m != x.want {
			t.Errorf("Without(%#x, %d): %#x, not %#x", x.m, x.n, m, x.want)
		}
	}
}

// TestOtherNumbers is of P3.1: no mask has them, and none is changed by them.
func TestOtherNumbers(t *testing.T) {
	for _, n := range wrong {
		for _, m := range someMasks() {
			if bits.Has(m, n) {
				t.Fatalf("Has(%#x, %d): true", m, n)
			}
			if got := bits.With(m, n); got != m {
				t.Fatalf("With(%#x, %d): %#x", m, n, got)
			}
			if got := bits.Without(m, n); got != m {
				t.Fatalf("Without(%#x, %d): %#x", m, n, got)
			}
		}
	}
}

// TestLeast is of P3.1: the least number and true; 0 and false of the mask that has none.
func TestLeast(t *testing.T) {
	for _, r := range rows {
		want, is := 0, len(r.ns) > 0
		if is {
			want = r.ns[0]
		}
		if n, ok := bits.Least(r.m); n != want || ok != is {
			t.Errorf("Least(%#x): %d, %t; not %d, %t", r.m, n, ok, want, is)
		}
	}
}

// TestCount is of P3.1: how many numbers a mask has.
func TestCount(t *testing.T) {
	for _, r := range rows {
		if k := bits.Count(r.m); k != len(r.ns) {
			t.Errorf("Count(%#x): %d, not %d", r.m, k, len(r.ns))
		}
	}
}

// TestWhole is of P3.1: the numbers below n, that counts as 0 below 0, and as 32 above 32.
func TestWhole(t *testing.T) {
	for n, want := range []uint32{0, 1, 3, 7, 15, 31, 63, 127, 255} {
		if m := bits.Whole(n); m != want {
			t.Errorf("Whole(%d): %#x, not %#x", n, m, want)
		}
	}
	for n := 0; n <= 32; n++ {
		m := bits.Whole(n)
		for i := range 32 {
			if in := i < n; (m>>i&1 == 1) != in {
				t.Errorf("Whole(%d): %#x, of which %d is not %t", n, m, i, in)
			}
		}
	}
	for _, n := range wrong {
		want := uint32(0)
		if n > 0 {
			want = math.MaxUint32
		}
		if m := bits.Whole(n); m != want {
			t.Errorf("Whole(%d): %#x, not %#x", n, m, want)
		}
	}
}

// TestMasksAreSets is of P3.2: a number that comes or goes leaves all others as they were.
func TestMasksAreSets(t *testing.T) {
	for _, m := range someMasks() {
		for n := range 32 {
			with, without := bits.With(m, n), bits.Without(m, n)
			for i := range 32 {
				old := bits.Has(m, i)
				if bits.Has(with, i) != (old || i == n) {
					t.Fatalf("With(%#x, %d): %#x, of %d", m, n, with, i)
				}
				if bits.Has(without, i) != (old && i != n) {
					t.Fatalf("Without(%#x, %d): %#x, of %d", m, n, without, i)
				}
			}
			if bits.Count(with)-bits.Count(without) != 1 {
				t.Fatalf("%#x: %d more with %d than without", m, bits.Count(with)-bits.Count(without), n)
			}
		}
	}
}

// TestNumbersMakeMasks is of P3.2: a mask is made of its numbers, in whatever order, and told by them.
func TestNumbersMakeMasks(t *testing.T) {
	for _, m := range someMasks() {
		ns := has(m)
		up, down := uint32(0), uint32(0)
		for i, n := range ns {
			up, down = bits.With(up, n), bits.With(down, ns[len(ns)-1-i])
		}
		if up != m || down != m {
			t.Fatalf("%#x: %#x and %#x are made of its numbers", m, up, down)
		}
	}
}

// TestLeastEmptiesMasks is of P3.2: taken out one by one, the least one first, a mask's numbers come rising, each once.
func TestLeastEmptiesMasks(t *testing.T) {
	for _, m := range someMasks() {
		var l []int
		rest := m
		for n, ok := bits.Least(rest); ok && len(l) <= 32; n, ok = bits.Least(rest) {
			l = append(l, n)
			rest = bits.Without(rest, n)
		}
		if rest != 0 || !slices.Equal(l, numbers(m)) || bits.Count(m) != len(l) {
			t.Fatalf("%#x: %v, %d counted", m, l, bits.Count(m))
		}
	}
}

// TestWholeGrows is of P3.2: each whole is the one ahead with one number more.
func TestWholeGrows(t *testing.T) {
	m := uint32(0)
	for n := range 32 {
		if bits.Whole(n) != m || bits.Count(m) != n {
			t.Errorf("Whole(%d): %#x, not %#x", n, bits.Whole(n), m)
		}
		m = bits.With(m, n)
	}
	if bits.Whole(32) != m || m != math.MaxUint32 {
		t.Errorf("Whole(32): %#x, not %#x", bits.Whole(32), m)
	}
}

// FuzzBits is of P3.1 and P3.2, of whatever comes.
func FuzzBits(f *testing.F) {
	for _, r := range rows {
		f.Add(r.m, len(r.ns))
	}
	for _, n := range wrong {
		f.Add(uint32(0xf0f0), n)
	}
	f.Fuzz(func(t *testing.T, m uint32, n int) {
		in := slices.Contains(numbers(m), n)
		with, without := bits.With(m, n), bits.Without(m, n)
		of := n >= 0 && n < 32
		if bits.Has(m, n) != in || bits.Has(with, n) != of || bits.Has(without, n) {
			t.Errorf("%#x, %d: not had as it must be", m, n)
		}
		if in && with != m || !in && without != m || !of && with != m {
			t.Errorf("%#x, %d: %#x with it, %#x without it", m, n, with, without)
		}
		if bits.Without(with, n) != without || bits.With(without, n) != with {
			t.Errorf("%#x, %d: comes and goes not alike", m, n)
		}
		if bits.Count(m) != len(numbers(m)) || mathbits.Len32(bits.Whole(n)) != min(max(n, 0), 32) {
			t.Errorf("%#x, %d: counted wrong", m, n)
		}
	})
}
