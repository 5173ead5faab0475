package header_test

import (
	"math"
	"testing"

	"flotsam/api"
	"flotsam/header"
)

// pair is a header that may be, and its word.
type pair struct {
	h api.Header
	w uint64
}

// pairs are worked out by hand from the chapter: of each class the least and the greatest count, in both colours.
var pairs = []pair{
	{api.Header{}, 0},
	{api.Header{Used: true, Class: 1, Count: 2}, 146},
	{api.Header{Used: true, Class: 0, Count: 0}, 128},
	{api.Header{Used: true, Class: 0, Count: 1}, 129},
	{api.Header{Used: true, Class: 1, Count: 0}, 144},
	{api.Header{Used: true, Class: 1, Count: 3}, 147},
	{api.Header{Used: true, Class: 2, Count: 0}, 160},
	{api.Header{Used: true, Class: 2, Count: 5}, 165},
	{api.Header{Used: true, Class: 2, Count: 7}, 167},
	{api.Header{Used: true, Class: 3, Count: 0}, 176},
	{api.Header{Used: true, Class: 3, Count: 8}, 184},
	{api.Header{Used: true, Class: 3, Count: 15}, 191},
	{api.Header{Used: true, Colour: true, Class: 0, Count: 0}, 192},
	{api.Header{Used: true, Colour: true, Class: 0, Count: 1}, 193},
	{api.Header{Used: true, Colour: true, Class: 1, Count: 0}, 208},
	{api.Header{Used: true, Colour: true, Class: 1, Count: 3}, 211},
	{api.Header{Used: true, Colour: true, Class: 2, Count: 0}, 224},
	{api.Header{Used: true, Colour: true, Class: 2, Count: 7}, 231},
	{api.Header{Used: true, Colour: true, Class: 3, Count: 0}, 240},
	{api.Header{Used: true, Colour: true, Class: 3, Count: 15}, 255},
}

// wrong are headers that may not be.
var wrong = []api.Header{
	{Colour: true},
	{Class: 1},
	{Class: -1},
	{Class: math.MinInt},
	{Count: 1},
	{Count: -1},
	{Count: math.MaxInt},
	{Colour: true, Class: 3, Count: 15},
	{Used: true, Class: 0, Count: 2},
	{Used: true, Class: 1, Count: 4},
	{Used: true, Class: 2, Count: 8},
	{Used: true, Class: 3, Count: 16},
	{Used: true, Colour: true, Class: 0, Count: 2},
	{Used: true, Colour: true, Class: 3, Count: 16},
	{Used: true, Class: 0, Count: -1},
	{Used: true, Class: 3, Count: -1},
	{Used: true, Class: 3, Count: math.MaxInt},
	{Used: true, Class: 3, Count: math.MinInt},
	{Used: true, Class: 3, Count: 256},
	{Used: true, Class: -1, Count: 0},
	{Used: true, Class: -1, Count: -1},
	{Used: true, Class: -1, Count: 1},
	{Used: true, Class: 4, Count: 0},
	{Used: true, Class: 4, Count: 1},
	{Used: true, Class: 63, Count: 0},
	{Used: true, Class: 64, Count: 0},
	{Used: true, Class: math.MaxInt, Count: 0},
	{Used: true, Class: math.MinInt, Count: 0},
}

// none are words that no header has.
var none = []uint64{
	1, 2, 15, 16, 63,
	64, 64 + 16, 127,
	128 + 2, 128 + 15,
	144 + 4, 144 + 15,
	160 + 8, 160 + 15,
	192 + 2, 208 + 4, 224 + 8,
	256, 256 + 128, 256 + 146, 512 + 255,
	1<<32 + 128, 1 << 63, 1<<63 + 128, 1<<63 + 146,
	math.MaxUint64 - 127, math.MaxUint64,
}

// TestMay is of P2.1: what may be, and what may not.
func TestMay(t *testing.T) {
	for _, p := range pairs {
		if !header.May(p.h) {
			t.Errorf("May(%+v): false", p.h)
		}
	}
	for _, h := range wrong {
		if header.May(h) {
			t.Errorf("May(%+v): true", h)
		}
	}
}

// TestPut is of P2.1: the word of each header that may be, 0 and false of others.
func TestPut(t *testing.T) {
	for _, p := range pairs {
		if w, ok := header.Put(p.h); w != p.w || !ok {
			t.Errorf("Put(%+v): %d, %t; not %d, true", p.h, w, ok, p.w)
		}
	}
	for _, h := range wrong {
		if w, ok := header.Put(h); w != 0 || ok {
			t.Errorf("Put(%+v): %d, %t; not 0, false", h, w, ok)
		}
	}
}

// TestGet is of P2.1: the header of each word that is one's, Header{} and false of others.
func TestGet(t *testing.T) {
	for _, p := range pairs {
		if h, ok := header.Get(p.w); h != p.h || !ok {
			t.Errorf("Get(%d): %+v, %t; not %+v, true", p.w, h, ok, p.h)
		}
	}
	for _, w := range none {
		if h, ok := header.Get(w); h != (api.Header{}) || ok {
			t.Errorf("Get(%d): %+v, %t; not Header{}, false", w, h, ok)
		}
	}
}

// allHeaders are all that the chapter lets be, listed by its own numbers, with no call of the package.
func allHeaders() []api.Header {
	l := []api.Header{{}}
	for class, most := range [api.Classes]int{1, 3, 7, 15} {
		for count := range most + 1 {
			for _, colour := range []bool{false, true} {
				l = append(l, api.Header{Used: true, Colour: colour, Class: class, Count: count})
			}
		}
	}
	return l
}

// TestPutIsReadAsItWas is of P2.2: each header that may be is read back from its word, which is no other's.
func TestPutIsReadAsItWas(t *testing.T) {
	whose := map[uint64]api.Header{}
	for _, h := range allHeaders() {
		w, ok := header.Put(h)
		if !ok {
			t.Fatalf("Put(%+v): false", h)
		}
		if back, ok := header.Get(w); back != h || !ok {
			t.Fatalf("Get(Put(%+v)): %+v, %t", h, back, ok)
		}
		if other, ok := whose[w]; ok {
			t.Fatalf("%+v and %+v both have the word %d", other, h, w)
		}
		whose[w] = h
	}
}

// someWords are the least and the greatest words, and those of the low bits with a single bit above.
func someWords() []uint64 {
	var l []uint64
	for i := range uint64(4096) {
		l = append(l, i, math.MaxUint64-i)
	}
	for place := 8; place < 64; place++ {
		for low := range uint64(256) {
			l = append(l, 1<<place+low)
		}
	}
	return l
}

// TestWordsAreOfHeaders is of P2.1 and P2.2: a word is read just if it is some header's that may be.
func TestWordsAreOfHeaders(t *testing.T) {
	whose := map[uint64]api.Header{}
	for _, h := range allHeaders() {
		w := uint64(16*h.Class + h.Count)
		if h.Used {
			w += 128
		}
		if h.Colour {
			w += 64
		}
		whose[w] = h
	}
	for _, w := range someWords() {
		want, is := whose[w]
		if h, ok := header.Get(w); h != want || ok != is {
			t.Fatalf("Get(%d): %+v, %t; not %+v, %t", w, h, ok, want, is)
		}
	}
}

// someNumbers are those about 0, the limits, each power of 2 and its negative, and the ends.
func someNumbers() []int {
	l := []int{math.MaxInt, math.MinInt, math.MinInt + 1}
	for i := -20; i <= 20; i++ {
		l = append(l, i)
	}
	for i := 4; i < 63; i++ {
		for d := -1; d <= 1; d++ {
			l = append(l, 1<<i+d, -(1<<i + d))
		}
	}
	return l
}

// TestHeadersThatMayBe is of P2.1 and P2.2: May and Put agree, of whatever class and count, with the chapter's list.
func TestHeadersThatMayBe(t *testing.T) {
	may := map[api.Header]bool{}
	for _, h := range allHeaders() {
		may[h] = true
	}
	for _, class := range someNumbers() {
		for _, count := range someNumbers() {
			for flags := range 4 {
				h := api.Header{Used: flags&1 != 0, Colour: flags&2 != 0, Class: class, Count: count}
				if header.May(h) != may[h] {
					t.Fatalf("May(%+v): not %t", h, may[h])
				}
				if w, ok := header.Put(h); ok != may[h] || !ok && w != 0 {
					t.Fatalf("Put(%+v): %d, %t", h, w, ok)
				}
			}
		}
	}
}

// FuzzHeader is of P2.1 and P2.2, of whatever comes.
func FuzzHeader(f *testing.F) {
	for _, p := range pairs {
		f.Add(p.h.Used, p.h.Colour, p.h.Class, p.h.Count, p.w)
	}
	for _, h := range wrong {
		f.Add(h.Used, h.Colour, h.Class, h.Count, none[0])
	}
	f.Fuzz(func(t *testing.T, used, colour bool, class, count int, w uint64) {
		h := api.Header{Used: used, Colour: colour, Class: class, Count: count}
		put, ok := header.Put(h)
		if ok != header.May(h) || !ok && put != 0 {
			t.Errorf("Put(%+v): %d, %t", h, put, ok)
		}
		if back, is := header.Get(put); ok && (back != h || !is) {
			t.Errorf("Get(Put(%+v)): %+v, %t", h, back, is)
		}
		got, ok := header.Get(w)
		if back, is := header.Put(got); ok && (back != w || !is) || !ok && got != (api.Header{}) {
			t.Errorf("Put(Get(%d)): %d, %t", w, back, is)
		}
	})
}
