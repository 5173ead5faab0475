package word_test

import (
	"math"
	"testing"

	"flotsam/api"
	"flotsam/word"
)

// pair is a value that may be, and its word.
type pair struct {
	v api.Value
	w uint64
}

// pairs are worked out by hand from the chapter.
var pairs = []pair{
	{api.Value{Kind: api.Nil, N: 0}, 0},
	{api.Value{Kind: api.Int, N: 0}, 1},
	{api.Value{Kind: api.Ref, N: 0}, 2},
	{api.Value{Kind: api.Int, N: 1}, 3},
	{api.Value{Kind: api.Ref, N: 1}, 4},
	{api.Value{Kind: api.Int, N: 5}, 11},
	{api.Value{Kind: api.Ref, N: 7}, 16},
	{api.Value{Kind: api.Ref, N: 511}, 1024},
	{api.Value{Kind: api.Int, N: api.MaxInt}, 1<<41 + 1},
	{api.Value{Kind: api.Int, N: 1<<62 - 1}, 1<<63 - 1},
	{api.Value{Kind: api.Ref, N: 1<<62 - 1}, 1 << 63},
	{api.Value{Kind: api.Int, N: 1 << 62}, 1<<63 + 1},
	{api.Value{Kind: api.Ref, N: math.MaxInt64 - 2}, math.MaxUint64 - 3},
	{api.Value{Kind: api.Int, N: math.MaxInt64 - 1}, math.MaxUint64 - 2},
	{api.Value{Kind: api.Ref, N: math.MaxInt64 - 1}, math.MaxUint64 - 1},
	{api.Value{Kind: api.Int, N: math.MaxInt64}, math.MaxUint64},
}

// wrong are values that may not be.
var wrong = []api.Value{
	{Kind: api.Nil, N: 1},
	{Kind: api.Nil, N: -1},
	{Kind: api.Nil, N: math.MaxInt64},
	{Kind: api.Nil, N: math.MinInt64},
	{Kind: api.Int, N: -1},
	{Kind: api.Int, N: math.MinInt64},
	{Kind: api.Ref, N: -1},
	{Kind: api.Ref, N: -2},
	{Kind: api.Ref, N: math.MinInt64},
	{Kind: api.Ref, N: math.MaxInt64},
	{Kind: 3, N: 0},
	{Kind: 3, N: 5},
	{Kind: 4, N: 0},
	{Kind: -1, N: 0},
	{Kind: -1, N: 5},
	{Kind: 256, N: 0},
	{Kind: math.MaxInt64, N: 0},
	{Kind: math.MinInt64, N: 0},
}

// TestMay is of P1.1: what may be, and what may not.
func TestMay(t *testing.T) {
	for _, p := range pairs {
		if !word.May(p.v) {
			t.Errorf("May(%v): false", p.v)
		}
	}
	for _, v := range wrong {
		if word.May(v) {
			t.Errorf("May(%v): true", v)
		}
	}
}

// TestPut is of P1.1: the word of each value that may be, 0 and false of others.
func TestPut(t *testing.T) {
	for _, p := range pairs {
		if w, ok := word.Put(p.v); w != p.w || !ok {
			t.Errorf("Put(%v): %d, %t; not %d, true", p.v, w, ok, p.w)
		}
	}
	for _, v := range wrong {
		if w, ok := word.Put(v); w != 0 || ok {
			t.Errorf("Put(%v): %d, %t; not 0, false", v, w, ok)
		}
	}
}

// TestGet is of P1.1: the value of each word.
func TestGet(t *testing.T) {
	for _, p := range pairs {
		if v := word.Get(p.w); v != p.v {
			t.Errorf("Get(%d): %v, not %v", p.w, v, p.v)
		}
	}
}

// someWords are the least and the greatest words, and those about each power of 2.
func someWords() []uint64 {
	var l []uint64
	for i := range uint64(4096) {
		l = append(l, i, math.MaxUint64-i)
	}
	for i := range 64 {
		for d := range uint64(5) {
			l = append(l, uint64(1)<<i+d-2)
		}
	}
	return l
}

// TestWordsAreValues is of P1.2: each word is one value's that may be, and no other word's value is the same.
func TestWordsAreValues(t *testing.T) {
	whose := map[api.Value]uint64{}
	for _, w := range someWords() {
		v := word.Get(w)
		if !word.May(v) {
			t.Fatalf("Get(%d): %v, which may not be", w, v)
		}
		if back, ok := word.Put(v); back != w || !ok {
			t.Fatalf("Put(Get(%d)): %d, %t", w, back, ok)
		}
		if other, ok := whose[v]; ok && other != w {
			t.Fatalf("%d and %d are both the word of %v", other, w, v)
		}
		whose[v] = w
	}
}

// someNumbers are those about 0, about each power of 2 and its negative, and the ends.
func someNumbers() []int {
	var l []int
	for i := range 2048 {
		l = append(l, i, -i, math.MaxInt64-i, math.MinInt64+i)
	}
	for i := range 63 {
		for d := range 5 {
			l = append(l, 1<<i+d-2, -(1<<i + d - 2))
		}
	}
	return l
}

// TestValuesAreWords is of P1.2: each value that may be has a word of its own; the kinds about the three are none.
func TestValuesAreWords(t *testing.T) {
	whose := map[uint64]api.Value{}
	for kind := -3; kind <= 6; kind++ {
		for _, n := range someNumbers() {
			v := api.Value{Kind: kind, N: n}
			w, ok := word.Put(v)
			if ok != word.May(v) {
				t.Fatalf("Put(%v): %t, but May: %t", v, ok, word.May(v))
			}
			if !ok {
				continue
			}
			if back := word.Get(w); back != v {
				t.Fatalf("Get(Put(%v)): %v", v, back)
			}
			if other, ok := whose[w]; ok && other != v {
				t.Fatalf("%v and %v both have the word %d", other, v, w)
			}
			whose[w] = v
		}
	}
}

// FuzzWord is of P1.1 and P1.2, of whatever comes.
func FuzzWord(f *testing.F) {
	for _, p := range pairs {
		f.Add(p.v.Kind, p.v.N, p.w)
	}
	for _, v := range wrong {
		f.Add(v.Kind, v.N, uint64(0))
	}
	f.Fuzz(func(t *testing.T, kind, n int, w uint64) {
		v := api.Value{Kind: kind, N: n}
		put, ok := word.Put(v)
		if ok != word.May(v) || !ok && put != 0 || ok && word.Get(put) != v {
			t.Errorf("%v: %d, %t", v, put, ok)
		}
		if back, ok := word.Put(word.Get(w)); back != w || !ok {
			t.Errorf("%d: %d, %t", w, back, ok)
		}
	})
}
