package sweep_test

import (
	"math"
	"slices"
	"testing"

	"flotsam/api"
	"flotsam/sweep"
	"flotsam/testheap"
)

// cache is a mutator's.
type cache = [api.Classes]int

// no is a cache that has no page.
var no = cache{-1, -1, -1, -1}

// What a block has in it, as these tests lay them.
const (
	none  = 0 // nothing: it is free
	white = 1
	black = 2
	kinds = 3
)

// span answers a span of a class that has those blocks free.
func span(state, class int, free uint32) api.Span {
	return api.Span{State: state, Class: class, Free: free}
}

// lay puts what is asked for into a page's blocks of a class, one after another from its first on, and makes it dirty.
// An object's fields are numbers that tell their addresses.
func lay(h api.Heap, page, class int, blocks ...int) {
	s := span(api.SpanDirty, class, testheap.AllFree(class))
	for i, kind := range blocks {
		at := 32*page + i*testheap.WordsOf(class)
		words := make([]uint64, testheap.WordsOf(class))
		if kind != none {
			s.Free -= 1 << i
			words[0] = uint64(128 + 16*class + len(words) - 1)
			if (kind == black) == h.Sense {
				words[0] += 64
			}
			for f := 1; f < len(words); f++ {
				words[f] = uint64(2*(at+f) + 1)
			}
		}
		testheap.Write(h, at, words...)
	}
	h.Spans[page] = s
}

// mustSweep fails, if One answers anything else than is asked for; it answers what One does.
func mustSweep(t *testing.T, h api.Heap, caches []cache) (api.Heap, int, int, bool) {
	t.Helper()
	wantHeap, wantPage, wantFreed, want := testheap.Swept(h, caches)
	g, page, freed, ok := sweep.One(h, caches)
	if ok != want || page != wantPage || freed != wantFreed || !testheap.Same(g, wantHeap) {
		t.Fatalf("One(%+v, %v): %+v, %d, %d, %t; not %+v, %d, %d, %t",
			h, caches, g, page, freed, ok, wantHeap, wantPage, wantFreed, want)
	}
	return g, page, freed, ok
}

// mustSweepAll fails, if All answers anything else than one page after another being swept.
func mustSweepAll(t *testing.T, h api.Heap, caches []cache) (api.Heap, int) {
	t.Helper()
	want, total := h, 0
	for {
		g, _, freed, ok := testheap.Swept(want, caches)
		if !ok {
			break
		}
		want, total = g, total+freed
	}
	g, n := sweep.All(h, caches)
	if n != total || !testheap.Same(g, want) {
		t.Fatalf("All(%+v, %v): %+v, %d; not %+v, %d", h, caches, g, n, want, total)
	}
	return g, n
}

// patterns answers all rows of so many kinds of blocks.
func patterns(blocks int) [][]int {
	all := [][]int{nil}
	for range blocks {
		var longer [][]int
		for _, p := range all {
			for kind := range kinds {
				longer = append(longer, append(slices.Clone(p), kind))
			}
		}
		all = longer
	}
	return all
}

// anyHeap answers a heap of some pages of each state and class, with objects and free blocks in them.
func anyHeap(next func(int) int, pages int) api.Heap {
	h := testheap.Blank(make([]api.Span, pages)...)
	h.Sense = next(2) == 1
	for page := range pages {
		class := next(api.Classes)
		blocks := make([]int, 32/testheap.WordsOf(class))
		// Some pages have but one kind, or two.
		first, among := next(kinds), 1+next(kinds)
		for i := range blocks {
			blocks[i] = (first + next(among)) % kinds
		}
		if state := next(4); state > 0 {
			lay(h, page, class, blocks...)
			h.Spans[page].State = []int{api.SpanClean, api.SpanDirty, api.SpanDirty}[state-1]
		}
	}
	return h
}

// anyCaches answers caches that have pages here and there, such as aren't of the heap and twice the same among them.
func anyCaches(next func(int) int, pages int) []cache {
	l := make([]cache, next(4))
	for m := range l {
		l[m] = no
		for c := range l[m] {
			if next(3) == 0 {
				l[m][c] = next(pages+2) - 1
			}
		}
	}
	return testheap.WithRoom(l, cache{0, 1, 2, 3})
}

// TestBegin is of P12.1: each clean span becomes dirty, whatever its class and what it has free; all else stays.
func TestBegin(t *testing.T) {
	spans := []api.Span{
		{}, span(1, 0, 0), span(1, 0, 0xffff), span(1, 0, 0x8001), span(2, 0, 0x10), {}, span(1, 1, 0xff), span(2, 1, 0),
		span(1, 1, 0), span(1, 2, 5), span(2, 2, 0xf), span(1, 3, 0), span(1, 3, 1), span(1, 3, 3), span(2, 3, 2), {},
	}
	want := []api.Span{
		{}, span(2, 0, 0), span(2, 0, 0xffff), span(2, 0, 0x8001), span(2, 0, 0x10), {}, span(2, 1, 0xff), span(2, 1, 0),
		span(2, 1, 0), span(2, 2, 5), span(2, 2, 0xf), span(2, 3, 0), span(2, 3, 1), span(2, 3, 3), span(2, 3, 2), {},
	}
	for pages := 1; pages <= 16; pages++ {
		for _, sense := range []bool{false, true} {
			h := testheap.Blank(spans[:pages]...)
			for at := range h.Words {
				h.Words[at] = uint64(at * 3)
			}
			h.Sense = sense
			g := sweep.Begin(h)
			if !slices.Equal(g.Spans, want[:pages]) || !slices.Equal(g.Words, h.Words) || g.Sense != sense {
				t.Errorf("%d pages: %+v", pages, g)
			}
			if again := sweep.Begin(g); !testheap.Same(again, g) {
				t.Errorf("%d pages, again: %+v", pages, again)
			}
		}
	}
}

// TestDirty is of P12.1: spans that are free and clean don't count, dirty ones do, whatever they have free.
func TestDirty(t *testing.T) {
	for n := range 81 {
		var spans []api.Span
		want := 0
		for _, state := range []int{n / 27, n / 9 % 3, n / 3 % 3, n % 3} {
			switch state {
			case api.SpanFree:
				spans = append(spans, api.Span{})
			case api.SpanClean:
				spans = append(spans, span(1, 2, 0xf), span(1, 0, 0))
			case api.SpanDirty:
				spans = append(spans, span(2, 3, 0), span(2, 1, 0xff))
				want += 2
			}
		}
		if got := sweep.Dirty(testheap.Blank(spans...)); got != want {
			t.Errorf("Dirty of %+v: %d", spans, got)
		}
	}
	for pages := 1; pages <= 16; pages++ {
		h := testheap.Blank(slices.Repeat([]api.Span{span(1, 0, 1)}, pages)...)
		if got := sweep.Dirty(h); got != 0 {
			t.Errorf("Dirty of %d clean pages: %d", pages, got)
		}
		if got := sweep.Dirty(sweep.Begin(h)); got != pages {
			t.Errorf("Dirty of %d dirty pages: %d", pages, got)
		}
	}
}

// TestOne is of P12.2 and P12.3, worked out by hand: two objects, one black, and the other's words are freed.
func TestOne(t *testing.T) {
	for c, words := range []int{2, 4, 8, 16} {
		for _, sense := range []bool{false, true} {
			for gone := range 2 {
				h := testheap.Blank(api.Span{}, api.Span{})
				h.Sense = sense
				two := []int{black, black}
				two[gone] = white
				lay(h, 1, c, two...)
				g, page, freed, ok := sweep.One(h, []cache{no})
				if !ok || page != 1 || freed != words || g.Sense != sense {
					t.Errorf("class %d: %d, %d, %t", c, page, freed, ok)
				}
				stays := 32 + (1-gone)*words
				if g.Spans[1] != span(api.SpanClean, c, testheap.AllFree(c)-1<<(1-gone)) || g.Spans[0] != (api.Span{}) {
					t.Errorf("class %d: %+v", c, g.Spans)
				}
				for at, w := range g.Words {
					want := uint64(0)
					if at >= stays && at < stays+words {
						want = h.Words[at]
					}
					if w != want {
						t.Errorf("class %d: %d at %d", c, w, at)
					}
				}
			}
		}
	}
}

// TestOneOfAllPatterns is of P12.2 and P12.3: all that a page's blocks may be, kept by somebody and not.
func TestOneOfAllPatterns(t *testing.T) {
	for c := 1; c < api.Classes; c++ {
		for i, p := range patterns(32 / testheap.WordsOf(c)) {
			h := testheap.Blank(span(api.SpanClean, 3, 3), api.Span{})
			h.Sense = i%2 == 0
			lay(h, 1, c, p...)
			mustSweep(t, h, []cache{no})
			mustSweep(t, h, []cache{no, {-1, -1, 1, -1}})
		}
	}
}

// TestOneOfTheLeastClass is of P12.2 and P12.3: pages of sixteen blocks, one, two and all of a kind.
func TestOneOfTheLeastClass(t *testing.T) {
	for _, sense := range []bool{false, true} {
		for most := range kinds {
			for a := range 16 {
				for b := range 16 {
					for kind := range kinds * kinds {
						h := testheap.Blank(api.Span{})
						h.Sense = sense
						blocks := slices.Repeat([]int{most}, 16)
						blocks[a], blocks[b] = kind/kinds, kind%kinds
						lay(h, 0, 0, blocks...)
						mustSweep(t, h, nil)
						mustSweep(t, h, []cache{{0, -1, -1, -1}})
					}
				}
			}
		}
	}
}

// TestOneOfNoneDirty is of P12.2: h, 0, 0 and false, though there are white objects, and empty pages.
func TestOneOfNoneDirty(t *testing.T) {
	h := testheap.Blank(api.Span{}, api.Span{}, api.Span{}, api.Span{})
	lay(h, 1, 2, white, black, none, white)
	lay(h, 2, 3, none, none)
	h.Spans[1].State, h.Spans[2].State = api.SpanClean, api.SpanClean
	for _, h := range []api.Heap{h, testheap.Blank(api.Span{}), testheap.Blank(make([]api.Span, 16)...)} {
		for _, caches := range [][]cache{nil, {}, {no}, {{1, 2, 0, 3}}} {
			g, page, freed, ok := sweep.One(h, caches)
			if ok || page != 0 || freed != 0 || !testheap.Same(g, h) {
				t.Errorf("%+v: %+v, %d, %d, %t", h.Spans, g, page, freed, ok)
			}
		}
	}
}

// TestOneIsTheLeast is of P12.2: the least dirty page of all pairs; the others stay, dirty or clean.
func TestOneIsTheLeast(t *testing.T) {
	for p := range 16 {
		for q := p; q < 16; q++ {
			h := testheap.Blank(make([]api.Span, 16)...)
			for page := range 16 {
				lay(h, page, 2, white, black, white, none)
				if page != p && page != q {
					h.Spans[page].State = api.SpanClean
				}
			}
			g, page, freed, ok := mustSweep(t, h, nil)
			if !ok || page != p || freed != 16 || sweep.Dirty(g) != min(q-p, 1) {
				t.Errorf("%d and %d: %d, %d, %t", p, q, page, freed, ok)
			}
			for other := range 16 {
				same := slices.Equal(g.Words[32*other:32*other+32], h.Words[32*other:32*other+32]) && g.Spans[other] == h.Spans[other]
				if same != (other != p) {
					t.Errorf("%d and %d: the page %d: %t", p, q, other, same)
				}
			}
		}
	}
}

// TestOneCloses is of P12.2: a page with nothing black in it is closed, whether anything was white or not.
func TestOneCloses(t *testing.T) {
	for c := range api.Classes {
		blocks := 32 / testheap.WordsOf(c)
		for n := range blocks + 1 {
			h := testheap.Blank(api.Span{}, api.Span{}, api.Span{})
			lay(h, 1, c, slices.Repeat([]int{white}, n)...)
			g, page, freed, ok := sweep.One(h, []cache{no, {0, -1, 2, 3}})
			if !ok || page != 1 || freed != n*testheap.WordsOf(c) || g.Spans[1] != (api.Span{}) {
				t.Errorf("class %d, %d objects: %+v, %d, %d, %t", c, n, g.Spans, page, freed, ok)
			}
			if slices.ContainsFunc(g.Words, func(w uint64) bool { return w != 0 }) {
				t.Errorf("class %d, %d objects: %v", c, n, g.Words)
			}
		}
	}
}

// TestOneKeepsOpen is of P12.2: a page that is empty then, but stands in a cache, wherever it does, is clean.
func TestOneKeepsOpen(t *testing.T) {
	for c := range api.Classes {
		for mutators := 1; mutators <= 8; mutators++ {
			for place := range mutators * api.Classes {
				h := testheap.Blank(api.Span{}, api.Span{})
				lay(h, 1, c, white, white)
				caches := slices.Repeat([]cache{no}, mutators)
				caches[place/api.Classes][place%api.Classes] = 1
				g, page, freed, ok := sweep.One(h, caches)
				if !ok || page != 1 || freed != 2*testheap.WordsOf(c) || g.Spans[1] != span(api.SpanClean, c, testheap.AllFree(c)) {
					t.Errorf("class %d, %v: %+v, %d, %d, %t", c, caches, g.Spans, page, freed, ok)
				}
			}
		}
	}
}

// TestOneOfAnyCaches is of P12.2: caches that aren't right keep just the pages that stand in them.
func TestOneOfAnyCaches(t *testing.T) {
	for _, far := range append([]int{1, 2, 3, 16}, testheap.Far()...) {
		h := testheap.Blank(api.Span{}, api.Span{})
		lay(h, 0, 1, white)
		for _, caches := range [][]cache{{{far, far, far, far}}, {no, {far, -1, -1, -1}}, testheap.WithRoom([]cache{no}, cache{})} {
			if g, _, _, _ := mustSweep(t, h, caches); g.Spans[0] != (api.Span{}) {
				t.Errorf("%v: %+v", caches, g.Spans)
			}
		}
		for _, caches := range [][]cache{{{far, far, 0, far}}, {{0, 0, 0, 0}}, {{far, 0, -1, -1}, {0, far, -1, -1}}} {
			if g, _, _, _ := mustSweep(t, h, caches); g.Spans[0] != span(api.SpanClean, 1, 0xff) {
				t.Errorf("%v: %+v", caches, g.Spans)
			}
		}
	}
}

// TestOneOfHeapsNotSound is of P12.2 and P12.3, of heaps that just have their form: what is no object isn't freed, nor what
// is free already; of an object of another class its block's words are.
func TestOneOfHeapsNotSound(t *testing.T) {
	rows := []struct {
		free  uint32
		words [4]uint64 // the first ones of the four blocks of class 2
		freed int
		left  uint32
	}{
		// Not free, but no object: nothing, not Used, no word of a header at all, a Count that leads out of the page.
		{0, [4]uint64{}, 0, 0}, {0, [4]uint64{1, 127, 256, 1 << 40}, 0, 0},
		{0, [4]uint64{192 + 32 + 2, 192 + 32 + 9, 193, 192 + 48 + 8}, 16, 5},
		// Free, but with an object in it: it stays as it is.
		{0xf, [4]uint64{192 + 32, 0, 0, 192 + 32 + 3}, 0, 0xf}, {2, [4]uint64{192 + 32, 192 + 32, 128 + 32, 192 + 32}, 16, 11},
		// Of lesser and greater classes than the span's, words beyond its block included.
		{0, [4]uint64{192 + 48 + 15, 192 + 48 + 15, 192, 128 + 48 + 15}, 24, 7}, {0, [4]uint64{192 + 48 + 8, 128, 128 + 48, 193}, 16, 9},
	}
	for i, r := range rows {
		for _, sense := range []bool{false, true} {
			h := testheap.Blank(api.Span{}, span(api.SpanDirty, 2, r.free), api.Span{})
			h.Sense = sense
			for at := range h.Words {
				h.Words[at] = uint64(3*at + 1)
			}
			for block, w := range r.words {
				if sense && w >= 128 && w < 256 {
					w ^= 64
				}
				h.Words[32+8*block] = w
			}
			g, page, freed, ok := mustSweep(t, h, []cache{{-1, -1, 1, -1}})
			if !ok || page != 1 || freed != r.freed || g.Spans[1] != span(api.SpanClean, 2, r.left) {
				t.Errorf("row %d: %+v, %d, %d, %t", i, g.Spans, page, freed, ok)
			}
			for at, w := range g.Words {
				isFreed := at/32 == 1 && (r.left&^r.free)>>(at%32/8)&1 == 1
				if isFreed && w != 0 || !isFreed && w != h.Words[at] {
					t.Errorf("row %d: %d at %d", i, w, at)
				}
			}
		}
	}
}

// TestOneClosesAPageOfJunk is of P12.2: a page of free blocks is closed, though there are objects in them.
func TestOneClosesAPageOfJunk(t *testing.T) {
	for _, head := range []uint64{128 + 48, 192 + 48, 128 + 48 + 15} {
		h := testheap.Blank(span(api.SpanDirty, 3, 3))
		testheap.Write(h, 16, head, 9)
		g, page, freed, ok := mustSweep(t, h, nil)
		if !ok || page != 0 || freed != 0 || g.Spans[0] != (api.Span{}) || g.Words[16] != head || g.Words[17] != 9 {
			t.Errorf("%d: %+v, %d, %d, %t", head, g, page, freed, ok)
		}
	}
}

// TestAll is of P12.2, worked out by hand: some pages of each state.
func TestAll(t *testing.T) {
	h := testheap.Blank(make([]api.Span, 7)...)
	h.Sense = true
	lay(h, 0, 0, white, black, white)
	lay(h, 1, 1, white, white)
	lay(h, 3, 2, white, black, white, white)
	lay(h, 4, 3, white, white)
	lay(h, 5, 3, none, white)
	lay(h, 6, 1)
	h.Spans[3].State = api.SpanClean
	g, freed := sweep.All(h, []cache{{-1, -1, 3, 5}, no})
	want := []api.Span{span(1, 0, 0xfffd), {}, {}, span(1, 2, 0), {}, span(1, 3, 3), {}}
	if freed != 4+8+32+16 || !slices.Equal(g.Spans, want) || !g.Sense || sweep.Dirty(g) != 0 {
		t.Errorf("%d, %+v", freed, g.Spans)
	}
	for at, w := range g.Words {
		stays := at == 2 || at == 3 || at/32 == 3
		if stays && w != h.Words[at] || !stays && w != 0 {
			t.Errorf("%d at %d", w, at)
		}
	}
	mustSweepAll(t, h, nil)
}

// TestAllOfNoneDirty is of P12.2: the heap as it is, and 0.
func TestAllOfNoneDirty(t *testing.T) {
	h := testheap.Blank(api.Span{}, api.Span{})
	lay(h, 1, 1, white, black)
	h.Spans[1].State = api.SpanClean
	if g, freed := sweep.All(h, []cache{no}); freed != 0 || !testheap.Same(g, h) {
		t.Errorf("%+v, %d", g, freed)
	}
}

// TestAllOfTheGreatest is of P12.2: sixteen pages of white objects, all words freed.
func TestAllOfTheGreatest(t *testing.T) {
	for c := range api.Classes {
		h := testheap.Blank(make([]api.Span, 16)...)
		for page := range 16 {
			lay(h, page, c, slices.Repeat([]int{white}, 32/testheap.WordsOf(c))...)
		}
		g, freed := sweep.All(h, []cache{no})
		if freed != 512 || !testheap.Same(g, testheap.Blank(make([]api.Span, 16)...)) {
			t.Errorf("class %d: %d, %+v", c, freed, g)
		}
	}
}

// TestSweepingWholly is of P12.1 to P12.3: sweeping begins, and page by page it ends, in heaps of all kinds.
func TestSweepingWholly(t *testing.T) {
	closed, stayed := 0, 0
	for seed := range 300 {
		next := testheap.Numbers(seed)
		h := anyHeap(next, 1+next(16))
		caches := anyCaches(next, len(h.Spans))
		mustSweepAll(t, h, caches)
		begun := sweep.Begin(h)
		if slices.ContainsFunc(begun.Spans, func(s api.Span) bool { return s.State == api.SpanClean }) || !slices.Equal(begun.Words, h.Words) {
			t.Fatalf("Begin(%+v): %+v", h, begun)
		}
		mustSweepAll(t, begun, caches)
		g, last := begun, -1
		for left := sweep.Dirty(begun); left > 0; left-- {
			then, page, _, ok := mustSweep(t, g, caches)
			if !ok || page <= last || sweep.Dirty(then) != left-1 {
				t.Fatalf("the page %d behind %d, %d dirty ones left", page, last, left)
			}
			g, last = then, page
		}
		for at := range h.Words {
			x := testheap.HeaderAt(h, at)
			if y := testheap.HeaderAt(g, at); x.Used && x.Colour == h.Sense && y != x || y.Used && y.Colour != h.Sense {
				t.Fatalf("the object at %d: %+v, then %+v", at, x, y)
			}
		}
		for page, s := range g.Spans {
			if s.State == api.SpanFree && h.Spans[page].State != api.SpanFree {
				closed++
			} else if s.State != api.SpanFree {
				stayed++
			}
		}
	}
	if closed < 200 || stayed < 200 {
		t.Errorf("too few: %d closed, %d stayed", closed, stayed)
	}
}

// TestStays is of P12.4: what is handed in stays, the room behind the lists included.
func TestStays(t *testing.T) {
	for seed := range 40 {
		next := testheap.Numbers(seed)
		h := anyHeap(next, 1+next(16))
		caches := anyCaches(next, len(h.Spans))
		was, kept := testheap.Kept(h), slices.Clone(testheap.Whole(caches))
		sweep.Begin(h)
		sweep.Dirty(h)
		sweep.One(h, caches)
		sweep.All(h, caches)
		if !testheap.Untouched(h, was) || !slices.Equal(testheap.Whole(caches), kept) {
			t.Errorf("%+v, %v changed to %+v, %v", was, kept, h, caches)
		}
	}
}

// TestNewMemory is of P12.4: what is answered shares nothing, though there is nothing to be done.
func TestNewMemory(t *testing.T) {
	for i, blocks := range [][]int{{white, black}, {black, black}, {white, white}, {none, none}, {black, none}} {
		for state, done := range []string{"free", "clean", "dirty"} {
			for _, caches := range [][]cache{nil, {{-1, -1, -1, 1}}} {
				made := func() api.Heap {
					h := testheap.Blank(api.Span{}, api.Span{}, api.Span{})
					if state != api.SpanFree {
						lay(h, 1, 3, blocks...)
						h.Spans[1].State = state
					}
					return h
				}
				calls := map[string]func(h api.Heap) (api.Heap, bool){
					"Begin": func(h api.Heap) (api.Heap, bool) { return sweep.Begin(h), true },
					"All": func(h api.Heap) (api.Heap, bool) {
						g, _ := sweep.All(h, caches)
						return g, true
					},
				}
				if state == api.SpanDirty {
					calls["One"] = func(h api.Heap) (api.Heap, bool) {
						g, _, _, ok := sweep.One(h, caches)
						return g, ok
					}
				}
				for name, call := range calls {
					if !testheap.OfNewMemory(made(), call) {
						t.Errorf("row %d, a %s page, %v: what %s answers isn't of new memory", i, done, caches, name)
					}
				}
			}
		}
	}
}

// TestOfNoForm is of DOC.md's P1's edge: nothing is promised of heaps that lack their form, but the calls end.
func TestOfNoForm(t *testing.T) {
	for _, h := range []api.Heap{
		{}, {Spans: []api.Span{}}, {Words: make([]uint64, 32)}, {Words: make([]uint64, 31), Spans: []api.Span{{}}},
		testheap.Blank(span(2, 4, 0)), testheap.Blank(span(2, -1, 1)), testheap.Blank(span(2, math.MaxInt, 1)),
		testheap.Blank(span(2, 3, 0xffff)), testheap.Blank(span(3, 0, 0)), testheap.Blank(span(-1, 2, 7)), testheap.Blank(span(0, 2, 7)),
		testheap.Blank(slices.Repeat([]api.Span{span(2, 1, 0)}, 40)...),
	} {
		sweep.Begin(h)
		sweep.Dirty(h)
		sweep.One(h, nil)
		sweep.All(h, []cache{no})
	}
}

// FuzzSweep is of P12.1 to P12.3: heaps that have their form, of whatever words, as a text of bytes has it.
func FuzzSweep(f *testing.F) {
	f.Add([]byte{2, 1, 0, 1, 9, 9, 1, 0, 3, 4}, true)
	f.Add([]byte{3, 2, 3, 0, 2, 3, 1, 2, 2, 0, 128, 192, 130, 200, 240, 255}, false)
	f.Add([]byte{15, 2, 1, 0xff, 2, 0, 3, 2, 2, 1, 129, 0, 193, 0, 145, 0, 209}, true)
	f.Fuzz(func(t *testing.T, l []byte, sense bool) {
		next := func(below int) int {
			if len(l) == 0 {
				return 0
			}
			n := int(l[0]) % below
			l = l[1:]
			return n
		}
		spans := make([]api.Span, 1+next(16))
		for page := range spans {
			if state := next(3); state != api.SpanFree {
				c := next(api.Classes)
				spans[page] = span(state, c, uint32(next(256)+next(256)<<8)&testheap.AllFree(c))
			}
		}
		caches := anyCaches(next, len(spans))
		h := testheap.Blank(spans...)
		h.Sense = sense
		for at := range h.Words {
			h.Words[at] = uint64(next(256))
		}
		mustSweep(t, h, caches)
		mustSweepAll(t, h, caches)
		begun := sweep.Begin(h)
		mustSweep(t, begun, caches)
		g, _ := mustSweepAll(t, begun, caches)
		if sweep.Dirty(g) != 0 {
			t.Fatalf("%+v", g.Spans)
		}
	})
}
