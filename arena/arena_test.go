package arena_test

import (
	"math"
	"slices"
	"testing"

	"flotsam/api"
	"flotsam/arena"
)

// far are numbers that are no page's, class's, index's or address's: such as would be right in fewer bits too.
var far = []int{
	-1, -2, -3, -4, -8, -16, -17, -32, -33, -64, -256, -512, -513,
	512, 513, 514, 516, 544, 1024, 4096,
	1 << 16, 1<<16 + 2, 1 << 32, 1<<32 + 1, 1<<32 + 32, -1 << 32, -1<<32 + 2, 1 << 59, 1 << 60, 1<<60 + 8,
	math.MaxInt32, math.MinInt32, math.MaxInt, math.MaxInt - 1, math.MaxInt - 31, math.MinInt, math.MinInt + 1, math.MinInt + 32,
}

// wordsOf are how many words a block of each class has, by chapter 4.
var wordsOf = []int{2, 4, 8, 16}

// block is a class's block, and where it begins.
type block struct {
	page, class, index, at int
}

// rows are worked out by hand from the chapter.
var rows = []block{
	{1, 2, 3, 56}, // the chapter's own
	{0, 0, 0, 0}, {0, 1, 0, 0}, {0, 2, 0, 0}, {0, 3, 0, 0},
	{0, 0, 1, 2}, {0, 1, 1, 4}, {0, 2, 1, 8}, {0, 3, 1, 16},
	{0, 0, 15, 30}, {0, 1, 7, 28}, {0, 2, 3, 24},
	{1, 0, 0, 32}, {1, 3, 1, 48}, {7, 1, 5, 244}, {8, 0, 9, 274},
	{15, 0, 0, 480}, {15, 0, 15, 510}, {15, 1, 7, 508}, {15, 2, 3, 504}, {15, 3, 0, 480}, {15, 3, 1, 496},
}

// someWords are lists of words, with room behind that is 77s.
func someWords() [][]uint64 {
	var l [][]uint64
	for _, n := range []int{0, 1, 2, 3, 31, 32, 33, 64, 512} {
		ws := make([]uint64, n+4)
		for i := range ws {
			ws[i] = uint64(i+1) * 0x9e3779b97f4a7c15
		}
		for i := n; i < len(ws); i++ {
			ws[i] = 77
		}
		l = append(l, ws[:n])
	}
	return l
}

// whole are a list's words, with the room behind its length.
func whole(ws []uint64) []uint64 { return ws[:cap(ws)] }

// TestNew is of P5.1: 32 words for each page, all 0.
func TestNew(t *testing.T) {
	for pages := 1; pages <= 16; pages++ {
		ws, e := arena.New(pages)
		if e != api.OK || len(ws) != 32*pages {
			t.Errorf("New(%d): %d words, %d", pages, len(ws), e)
		}
		for at, w := range ws {
			if w != 0 {
				t.Errorf("New(%d): %d at %d", pages, w, at)
			}
		}
	}
}

// TestNewOfWrongPages is of P5.1: nothing and ErrArg.
func TestNewOfWrongPages(t *testing.T) {
	for _, pages := range append([]int{0, 17, 18, 32, 256 + 1}, far...) {
		if ws, e := arena.New(pages); e != api.ErrArg || len(ws) != 0 {
			t.Errorf("New(%d): %d words, %d", pages, len(ws), e)
		}
	}
}

// TestLoad is of P5.1: the word at each place, from the first to the last.
func TestLoad(t *testing.T) {
	ws := []uint64{7, 0, math.MaxUint64, 1 << 63}
	for at, want := range ws {
		if w, ok := arena.Load(ws, at); w != want || !ok {
			t.Errorf("Load(ws, %d): %d, %t; not %d, true", at, w, ok, want)
		}
	}
}

// TestNoSuchWord is of P5.1: 0 and false, and ws and false, beside the list's ends, its room behind none of it.
func TestNoSuchWord(t *testing.T) {
	for _, ws := range append(someWords(), nil) {
		for _, at := range append([]int{len(ws), len(ws) + 1, cap(ws), cap(ws) + 1}, far...) {
			if at >= 0 && at < len(ws) {
				continue
			}
			if w, ok := arena.Load(ws, at); w != 0 || ok {
				t.Errorf("Load of %d words at %d: %d, %t", len(ws), at, w, ok)
			}
			old := slices.Clone(whole(ws))
			out, ok := arena.Store(ws, at, 5)
			if ok || !slices.Equal(out, ws) {
				t.Errorf("Store of %d words at %d: %v, %t", len(ws), at, out, ok)
			}
			if !slices.Equal(whole(ws), old) {
				t.Errorf("Store of %d words at %d: changed what was handed in", len(ws), at)
			}
		}
	}
}

// TestStore is of P5.1: the words with that one, of each value a word may be.
func TestStore(t *testing.T) {
	for _, x := range []struct {
		ws   []uint64
		at   int
		w    uint64
		want []uint64
	}{
		{[]uint64{3}, 0, 4, []uint64{4}},
		{[]uint64{1, 2, 3}, 0, 9, []uint64{9, 2, 3}},
		{[]uint64{1, 2, 3}, 1, 0, []uint64{1, 0, 3}},
		{[]uint64{1, 2, 3}, 2, math.MaxUint64, []uint64{1, 2, math.MaxUint64}},
		{[]uint64{1, 2, 3}, 2, 3, []uint64{1, 2, 3}},
	} {
		if out, ok := arena.Store(x.ws, x.at, x.w); !ok || !slices.Equal(out, x.want) {
			t.Errorf("Store(%v, %d, %d): %v, %t; not %v, true", x.ws, x.at, x.w, out, ok, x.want)
		}
	}
}

// TestAddress is of P5.2: where blocks begin.
func TestAddress(t *testing.T) {
	for _, r := range rows {
		if at, ok := arena.Address(r.page, r.class, r.index); at != r.at || !ok {
			t.Errorf("Address(%d, %d, %d): %d, %t; not %d, true", r.page, r.class, r.index, at, ok, r.at)
		}
	}
}

// TestPlace is of P5.2: whose block begins there.
func TestPlace(t *testing.T) {
	for _, r := range rows {
		page, index, ok := arena.Place(r.class, r.at)
		if page != r.page || index != r.index || !ok {
			t.Errorf("Place(%d, %d): %d, %d, %t; not %d, %d, true", r.class, r.at, page, index, ok, r.page, r.index)
		}
	}
}

// TestNoAddress is of P5.2: 0 and false of no such page, class or index, a class's blocks being fewer than another's.
func TestNoAddress(t *testing.T) {
	none := []block{
		{page: 16}, {page: 17}, {page: 256}, {page: 16, class: 3, index: 1},
		{class: 4}, {class: 5}, {class: 4, index: 1}, {class: 64}, {class: 256},
		{class: 0, index: 16}, {class: 0, index: 17}, {class: 1, index: 8}, {class: 1, index: 15}, {class: 2, index: 4},
		{class: 2, index: 7}, {class: 3, index: 2}, {class: 3, index: 3}, {page: 15, class: 3, index: 2}, {page: 1, class: 3, index: 2},
		{page: 1, index: -1}, {page: 1, index: -16}, {page: 15, class: 2, index: -1},
	}
	for _, n := range far {
		none = append(none, block{page: n}, block{class: n}, block{index: n}, block{page: n, class: 2, index: 3},
			block{page: 3, class: n, index: 1}, block{page: 1, class: 1, index: n}, block{n, n, n, 0})
	}
	for _, b := range none {
		if at, ok := arena.Address(b.page, b.class, b.index); at != 0 || ok {
			t.Errorf("Address(%d, %d, %d): %d, %t", b.page, b.class, b.index, at, ok)
		}
	}
}

// TestNoPlace is of P5.2: 0, 0 and false within blocks, behind the page 15, and of no class.
func TestNoPlace(t *testing.T) {
	none := []block{
		{class: 0, at: 1}, {class: 0, at: 31}, {class: 0, at: 511}, {class: 1, at: 1}, {class: 1, at: 2}, {class: 1, at: 3},
		{class: 1, at: 510}, {class: 2, at: 4}, {class: 2, at: 12}, {class: 2, at: 57}, {class: 2, at: 508}, {class: 3, at: 8},
		{class: 3, at: 24}, {class: 3, at: 40}, {class: 3, at: 504}, {class: 3, at: 520}, {class: 3, at: 528},
		{class: 4}, {class: 4, at: 32}, {class: 5}, {class: 256, at: 2}, {class: -1, at: 2},
	}
	for _, n := range far {
		none = append(none, block{class: n}, block{class: n, at: 64}, block{class: n, at: n})
		for c := range wordsOf {
			none = append(none, block{class: c, at: n})
		}
	}
	for _, b := range none {
		if page, index, ok := arena.Place(b.class, b.at); page != 0 || index != 0 || ok {
			t.Errorf("Place(%d, %d): %d, %d, %t", b.class, b.at, page, index, ok)
		}
	}
}

// TestStoredIsLoaded is of P5.3: and every other word is as it was.
func TestStoredIsLoaded(t *testing.T) {
	for _, ws := range someWords() {
		for at := range ws {
			out, ok := arena.Store(ws, at, 5)
			if !ok || len(out) != len(ws) {
				t.Fatalf("Store of %d words at %d: %d words, %t", len(ws), at, len(out), ok)
			}
			for i, old := range ws {
				want := old
				if i == at {
					want = 5
				}
				if w, ok := arena.Load(out, i); w != want || !ok {
					t.Fatalf("%d words, 5 stored at %d: %d, %t at %d; not %d, true", len(ws), at, w, ok, i, want)
				}
			}
		}
	}
}

// TestAnArenaIsFilled is of P5.3: of all words of a new one each keeps its own.
func TestAnArenaIsFilled(t *testing.T) {
	for _, pages := range []int{1, 2, 16} {
		ws, _ := arena.New(pages)
		for at := range 32 * pages {
			out, ok := arena.Store(ws, at, uint64(at)<<32+1)
			if !ok {
				t.Fatalf("%d pages: false at %d", pages, at)
			}
			ws = out
		}
		for at := range 32 * pages {
			if w, ok := arena.Load(ws, at); w != uint64(at)<<32+1 || !ok {
				t.Fatalf("%d pages: %d, %t at %d", pages, w, ok, at)
			}
		}
	}
}

// TestPlacesAreAddresses is of P5.3: each block of each class has an address of its own, that is its place.
func TestPlacesAreAddresses(t *testing.T) {
	for c, words := range wordsOf {
		next := 0
		for page := range 16 {
			for index := range 32 / words {
				at, ok := arena.Address(page, c, index)
				// They come one behind the other, so no two are alike.
				if at != next || !ok {
					t.Errorf("Address(%d, %d, %d): %d, %t; not %d", page, c, index, at, ok, next)
				}
				if p, i, ok := arena.Place(c, at); p != page || i != index || !ok {
					t.Errorf("Place(%d, %d): %d, %d, %t; not %d, %d", c, at, p, i, ok, page, index)
				}
				next += words
			}
		}
	}
}

// TestAddressesArePlaces is of P5.3: what has a place is its address; all else has none.
func TestAddressesArePlaces(t *testing.T) {
	for c, words := range wordsOf {
		for at := -600; at <= 1200; at++ {
			page, index, ok := arena.Place(c, at)
			if ok != (at >= 0 && at < 512 && at%words == 0) {
				t.Errorf("Place(%d, %d): %d, %d, %t", c, at, page, index, ok)
			}
			if back, is := arena.Address(page, c, index); ok && (back != at || !is) {
				t.Errorf("Place(%d, %d): %d, %d, whose address is %d, %t", c, at, page, index, back, is)
			}
		}
	}
}

// TestHandedInStays is of P5.4: no call changes the words or the room behind them.
func TestHandedInStays(t *testing.T) {
	for _, ws := range someWords() {
		old := slices.Clone(whole(ws))
		for at := -1; at <= cap(ws); at++ {
			arena.Load(ws, at)
			arena.Store(ws, at, 5)
		}
		if !slices.Equal(whole(ws), old) {
			t.Errorf("%v, that were %v", whole(ws), old)
		}
	}
}

// TestAnsweredIsNew is of P5.4: what is written into an answer is seen nowhere else, nor the other way round.
func TestAnsweredIsNew(t *testing.T) {
	ws := make([]uint64, 3, 8)
	one, _ := arena.Store(ws, 1, 5)
	two, _ := arena.Store(ws, 1, 5)
	same, _ := arena.Store(ws, 1, 0)
	clear(ws)
	if !slices.Equal(one, []uint64{0, 5, 0}) {
		t.Errorf("%v, after the words handed in were cleared", one)
	}
	for _, l := range [][]uint64{one, same} {
		for i := range whole(l) {
			whole(l)[i] = 9
		}
	}
	if !slices.Equal(whole(ws), make([]uint64, 8)) || !slices.Equal(two, []uint64{0, 5, 0}) {
		t.Errorf("%v and %v, after other answers were written into", whole(ws), two)
	}
	a, _ := arena.New(1)
	for i := range whole(a) {
		whole(a)[i] = 9
	}
	if b, _ := arena.New(1); slices.Contains(b, 9) {
		t.Error("New: not new")
	}
}

// FuzzWords is of P5.1 and P5.3, of whatever comes.
func FuzzWords(f *testing.F) {
	for i, n := range far {
		f.Add(n, i, uint64(n))
		f.Add(i, n, uint64(i))
	}
	f.Fuzz(func(t *testing.T, pages, at int, w uint64) {
		ws, e := arena.New(pages)
		if (e == api.OK) != (pages >= 1 && pages <= 16) || e == api.OK && len(ws) != 32*pages || e != api.OK && (e != api.ErrArg || len(ws) != 0) {
			t.Fatalf("New(%d): %d words, %d", pages, len(ws), e)
		}
		in := at >= 0 && at < len(ws)
		out, ok := arena.Store(ws, at, w)
		if ok != in || len(out) != len(ws) {
			t.Errorf("Store of %d words at %d: %d words, %t", len(ws), at, len(out), ok)
		}
		got, is := arena.Load(out, at)
		if is != in || in && got != w || !in && got != 0 {
			t.Errorf("Load of %d words at %d: %d, %t", len(ws), at, got, is)
		}
	})
}

// FuzzPlaces is of P5.2 and P5.3, of whatever comes.
func FuzzPlaces(f *testing.F) {
	for _, r := range rows {
		f.Add(r.page, r.class, r.index, r.at)
	}
	for i, n := range far {
		f.Add(n, i%4, 0, i)
		f.Add(i%16, n, 0, i)
		f.Add(i%16, i%4, n, n)
	}
	f.Fuzz(func(t *testing.T, page, c, index, at int) {
		of := c >= 0 && c < 4
		want, is := 0, page >= 0 && page < 16 && of && index >= 0 && index < 32/wordsOf[c&3]
		if is {
			want = 32*page + index*wordsOf[c]
		}
		if got, ok := arena.Address(page, c, index); got != want || ok != is {
			t.Errorf("Address(%d, %d, %d): %d, %t; not %d, %t", page, c, index, got, ok, want, is)
		}
		wantPage, wantIndex, begins := 0, 0, of && at >= 0 && at < 512 && at%wordsOf[c&3] == 0
		if begins {
			wantPage, wantIndex = at/32, at%32/wordsOf[c]
		}
		if p, i, ok := arena.Place(c, at); p != wantPage || i != wantIndex || ok != begins {
			t.Errorf("Place(%d, %d): %d, %d, %t; not %d, %d, %t", c, at, p, i, ok, wantPage, wantIndex, begins)
		}
	})
}
