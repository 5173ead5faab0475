package take_test

import (
	"math"
	"slices"
	"testing"

	"flotsam/api"
	"flotsam/take"
	"flotsam/testheap"
)

// cache is a mutator's.
type cache = [api.Classes]int

// no is a cache that has no page.
var no = cache{-1, -1, -1, -1}

// Spans of each kind that is told apart here; those of class 0 with two free blocks or none, but for what the name tells.
var (
	free    = api.Span{}
	clean   = api.Span{State: api.SpanClean, Class: 0, Free: 0x9000}
	full    = api.Span{State: api.SpanClean, Class: 0, Free: 0}
	empty   = api.Span{State: api.SpanClean, Class: 0, Free: 0xffff}
	dirty   = api.Span{State: api.SpanDirty, Class: 0, Free: 0xffff}
	dirtied = api.Span{State: api.SpanDirty, Class: 0, Free: 0}
	clean1  = api.Span{State: api.SpanClean, Class: 1, Free: 0x41}
	clean2  = api.Span{State: api.SpanClean, Class: 2, Free: 4}
	clean3  = api.Span{State: api.SpanClean, Class: 3, Free: 2}
	full3   = api.Span{State: api.SpanClean, Class: 3, Free: 0}
	dirty3  = api.Span{State: api.SpanDirty, Class: 3, Free: 3}
)

// heapOf answers a heap of these spans, each of whose words tells its address, with room behind both lists.
func heapOf(spans ...api.Span) api.Heap {
	h := testheap.Blank(spans...)
	for at := range h.Words {
		h.Words[at] = uint64(at)<<8 + 7
	}
	return h
}

// cachesOf answers a list of these, with room behind its length that looks like a cache of the page 0.
func cachesOf(l ...cache) []cache { return testheap.WithRoom(l, cache{0, 0, 0, 0}) }

// areRight tells, by the chapter's words alone, whether the caches are right beside a heap.
func areRight(h api.Heap, caches []cache) bool {
	for _, x := range caches {
		for c, p := range x {
			isOne := p >= 0 && p < len(h.Spans) && h.Spans[p].State != api.SpanFree && h.Spans[p].Class == c
			if p != -1 && !(isOne && testheap.Places(caches, p) == 1) {
				return false
			}
		}
	}
	return true
}

// mustTake fails, if Take answers anything else than is asked for; it answers what Take does.
func mustTake(t *testing.T, h api.Heap, caches []cache, m, fields int) (api.Heap, []cache, int, bool) {
	t.Helper()
	wantHeap, wantCaches, wantAt, want := testheap.Taken(h, caches, m, fields)
	g, d, at, ok := take.Take(h, caches, m, fields)
	if ok != want || at != wantAt || !testheap.Same(g, wantHeap) || !slices.Equal(d, wantCaches) {
		t.Fatalf("Take(%+v, %v, %d, %d): %+v, %v, %d, %t; not %+v, %v, %d, %t",
			h, caches, m, fields, g, d, at, ok, wantHeap, wantCaches, wantAt, want)
	}
	return g, d, at, ok
}

// mustFind fails, if Page answers another page than that, or one where that is below 0.
func mustFind(t *testing.T, h api.Heap, caches []cache, m, c, want int) {
	t.Helper()
	if page, ok := take.Page(h, caches, m, c); page != max(want, 0) || ok != (want >= 0) {
		t.Fatalf("Page of %+v, %v, %d, %d: %d, %t; not %d", h.Spans, caches, m, c, page, ok, want)
	}
}

// TestKept is of P11.1: a page in each place, and one in none.
func TestKept(t *testing.T) {
	for n := 1; n <= 9; n++ {
		for m := range n {
			for c := range api.Classes {
				for _, page := range []int{0, 1, 15, 16, 1 << 40, math.MaxInt} {
					caches := cachesOf(slices.Repeat([]cache{no}, n)...)
					caches[m][c] = page
					for _, p := range []int{0, 1, 2, 14, 15, 16, 1 << 32, 1 << 40, 1<<40 + 1, math.MaxInt - 1, math.MaxInt} {
						if got := take.Kept(caches, p); got != (p == page) {
							t.Errorf("Kept(%v, %d): %t", caches, p, got)
						}
					}
				}
			}
		}
	}
	two := cachesOf(cache{5, -1, 5, 3}, cache{-1, 2, -1, 3})
	for page, want := range []bool{false, false, true, true, false, true, false} {
		if take.Kept(two, page) != want {
			t.Errorf("Kept(%v, %d): not %t", two, page, want)
		}
	}
}

// TestKeptOfNoCaches is of P11.1: no page stands where there is none, though one stands in the room behind.
func TestKeptOfNoCaches(t *testing.T) {
	for _, caches := range [][]cache{nil, {}, cachesOf(), cachesOf(no)} {
		for _, page := range append([]int{0, 1, 15}, testheap.Far()...) {
			if take.Kept(caches, page) {
				t.Errorf("Kept(%v, %d): true", caches, page)
			}
		}
	}
}

// TestKeptBelowNought is of P11.1: false of a page below 0, though it stands in a cache.
func TestKeptBelowNought(t *testing.T) {
	for _, page := range []int{-1, -2, -3, -16, -1 << 32, math.MinInt, math.MinInt + 1} {
		for _, caches := range [][]cache{{no}, {{page, page, page, page}}, {no, {0, page, 1, 2}}} {
			if take.Kept(caches, page) {
				t.Errorf("Kept(%v, %d): true", caches, page)
			}
		}
	}
}

// TestRight is of P11.1: none, and those of spans in use, whatever these have free, of as many mutators as may be.
func TestRight(t *testing.T) {
	h := heapOf(clean, free, full, empty, dirty, dirtied, clean1, clean2, clean3, full3, dirty3)
	rows := [][]cache{
		nil, {}, cachesOf(), {no}, {no, no, no}, slices.Repeat([]cache{no}, 8), slices.Repeat([]cache{no}, 100),
		{{0, -1, -1, -1}}, {{2, -1, -1, -1}}, {{3, -1, -1, -1}}, {{4, -1, -1, -1}}, {{5, -1, -1, -1}},
		{{-1, 6, -1, -1}}, {{-1, -1, 7, -1}}, {{-1, -1, -1, 8}}, {{-1, -1, -1, 9}}, {{-1, -1, -1, 10}},
		{{0, 6, 7, 8}}, {no, {0, 6, 7, 8}}, {{0, 6, 7, 8}, no},
		{{0, -1, -1, 8}, {2, -1, -1, 9}, {3, -1, 7, -1}, {4, 6, -1, -1}, {5, -1, -1, 10}, no},
		cachesOf(cache{0, 6, 7, 8}),
	}
	for i, caches := range rows {
		if !take.Right(h, caches) {
			t.Errorf("row %d: %v: false", i, caches)
		}
	}
}

// TestNotRight is of P11.1: no page of the heap, a free one, one of another class, one twice, in each place.
func TestNotRight(t *testing.T) {
	h := heapOf(clean, free, full, clean1, clean2, clean3)
	rows := [][]cache{
		{{1, -1, -1, -1}}, {{-1, 0, -1, -1}}, {{-1, -1, 0, -1}}, {{-1, -1, -1, 0}},
		{{3, -1, -1, -1}}, {{-1, 4, -1, -1}}, {{-1, -1, 5, -1}}, {{-1, -1, 3, -1}}, {{-1, -1, -1, 4}}, {{-1, 1, -1, -1}},
		{{6, -1, -1, -1}}, {{-1, 6, -1, -1}}, {{-1, -1, -1, 6}}, {{16, -1, -1, -1}}, {{32, -1, -1, -1}},
		{{-2, -1, -1, -1}}, {{-1, -2, -1, -1}}, {{-1, -1, -2, -1}}, {{-1, -1, -1, -2}},
		{{0, -1, -1, -1}, {0, -1, -1, -1}}, {{0, 3, 4, 5}, no, {2, 3, -1, -1}}, {{-1, -1, 4, -1}, {-1, -1, 4, -1}},
		{no, {0, -1, -1, 5}, {2, -1, -1, -1}, {-1, -1, -1, 5}}, {{0, 0, -1, -1}}, {{0, -1, -1, 0}}, {{0, 0, 0, 0}},
		append(slices.Repeat([]cache{no}, 7), cache{1, -1, -1, -1}),
	}
	for _, page := range testheap.Far() {
		for c := 0; c < api.Classes && page != -1; c++ {
			far := no
			far[c] = page
			rows = append(rows, []cache{far}, []cache{{0, 3, 4, 5}, far})
		}
	}
	for i, caches := range rows {
		if take.Right(h, caches) {
			t.Errorf("row %d: %v: true", i, caches)
		}
	}
}

// TestRightOfAll is of P11.1: all caches of two mutators for two classes, beside heaps of two pages of each kind.
func TestRightOfAll(t *testing.T) {
	kinds := []api.Span{free, clean, full, dirty, clean1}
	for n := range 25 {
		h := heapOf(kinds[n/5], kinds[n%5])
		for x := range 256 {
			caches := []cache{{x/64 - 1, x/16%4 - 1, -1, -1}, {x/4%4 - 1, x%4 - 1, -1, -1}}
			if got := take.Right(h, caches); got != areRight(h, caches) {
				t.Errorf("Right(%+v, %v): %t", h.Spans, caches, got)
			}
		}
	}
}

// TestPage is of P11.1: which page is found, worked out by hand; -1 is none.
func TestPage(t *testing.T) {
	h := heapOf(full, clean, free, clean, dirty, clean1, clean3, full3, dirty3, clean)
	rows := []struct {
		caches     []cache
		m, c, want int
	}{
		// The cache's own one, though a lesser one will do, and a lesser one is free.
		{[]cache{{1, -1, -1, -1}}, 0, 0, 1}, {[]cache{{3, -1, -1, -1}}, 0, 0, 3}, {[]cache{{9, -1, -1, -1}}, 0, 0, 9},
		{[]cache{no, {9, -1, -1, -1}}, 1, 0, 9}, {[]cache{{-1, 5, -1, 6}}, 0, 1, 5}, {[]cache{{-1, 5, -1, 6}}, 0, 3, 6},
		// Its own is full, or dirty, or there is none: the least one that is nobody's.
		{[]cache{{0, -1, -1, -1}}, 0, 0, 1}, {[]cache{{4, -1, -1, -1}}, 0, 0, 1}, {[]cache{no}, 0, 0, 1},
		{[]cache{{-1, -1, -1, 7}}, 0, 3, 6}, {[]cache{{-1, -1, -1, 8}}, 0, 3, 6}, {[]cache{no}, 0, 1, 5},
		{[]cache{{1, -1, -1, -1}, {0, -1, -1, -1}}, 1, 0, 3}, {[]cache{no, {1, -1, -1, -1}}, 0, 0, 3},
		{[]cache{{3, -1, -1, -1}, {1, -1, -1, -1}, no}, 2, 0, 9}, {[]cache{{3, -1, -1, -1}, no}, 1, 0, 1},
		// All that will do are others': the free one.
		{[]cache{{3, -1, -1, -1}, {1, -1, -1, -1}, {9, -1, -1, -1}, no}, 3, 0, 2},
		{[]cache{{3, -1, -1, -1}, {1, -1, -1, -1}, {9, -1, -1, -1}, {0, -1, -1, -1}}, 3, 0, 2},
		{[]cache{{-1, -1, -1, 6}, no}, 1, 3, 2}, {[]cache{no}, 0, 2, 2}, {[]cache{{-1, 5, -1, -1}, no}, 1, 1, 2},
	}
	for _, r := range rows {
		mustFind(t, h, cachesOf(r.caches...), r.m, r.c, r.want)
	}
}

// TestPageOfNone is of P11.1: pages that are all full, dirty, others', or of other classes.
func TestPageOfNone(t *testing.T) {
	rows := []struct {
		h      api.Heap
		caches []cache
		m, c   int
	}{
		{heapOf(full), []cache{no}, 0, 0}, {heapOf(full), []cache{{0, -1, -1, -1}}, 0, 0},
		{heapOf(dirty), []cache{no}, 0, 0}, {heapOf(dirty), []cache{{0, -1, -1, -1}}, 0, 0},
		{heapOf(clean), []cache{{0, -1, -1, -1}, no}, 1, 0}, {heapOf(empty), []cache{no, {0, -1, -1, -1}}, 0, 0},
		{heapOf(empty), []cache{no}, 0, 1}, {heapOf(empty), []cache{no}, 0, 3}, {heapOf(clean3), []cache{no}, 0, 0},
		{heapOf(clean1, clean2, clean3, full, dirty), []cache{no}, 0, 0},
		{heapOf(clean, clean1, clean3), []cache{{0, 1, -1, 2}}, 0, 2},
	}
	for _, r := range rows {
		mustFind(t, r.h, cachesOf(r.caches...), r.m, r.c, -1)
	}
}

// TestPageOfAll is of P11.1: all right caches of two mutators beside all heaps of three pages of each kind.
func TestPageOfAll(t *testing.T) {
	kinds := []api.Span{free, clean, full, dirty, clean1, clean3}
	seen := 0
	for n := range 216 {
		h := heapOf(kinds[n/36], kinds[n/6%6], kinds[n%6])
		for x := range 27 {
			caches := cachesOf(no, no)
			for page, who := range []int{x / 9, x / 3 % 3, x % 3} {
				if who < 2 && h.Spans[page].State != api.SpanFree {
					caches[who][h.Spans[page].Class] = page
				}
			}
			for m := range 2 {
				for c := range api.Classes {
					mustFind(t, h, caches, m, c, testheap.Found(h, caches, m, c))
					seen++
				}
			}
		}
	}
	if seen != 216*27*8 {
		t.Error(seen)
	}
}

// TestTake is of P11.2: where objects come to lie in an empty heap, worked out by hand.
func TestTake(t *testing.T) {
	h, caches := testheap.Blank(free, free, free, free), cachesOf(no, no, no)
	rows := []struct{ m, fields, at int }{
		{0, 1, 0}, {1, 1, 32}, {0, 0, 2}, {2, 8, 64}, {0, 15, 96}, {2, 15, 80}, {1, 0, 34}, {0, 9, 112}, {1, 1, 36}, {0, 1, 4},
	}
	for _, r := range rows {
		g, d, at, ok := take.Take(h, caches, r.m, r.fields)
		if !ok || at != r.at {
			t.Fatalf("Take for %d of %d fields: %d, %t", r.m, r.fields, at, ok)
		}
		if x := testheap.HeaderAt(g, at); x.Count != r.fields || x.Colour || !x.Used {
			t.Errorf("the header at %d: %+v", at, x)
		}
		h, caches = g, d
	}
	if !slices.Equal(caches, []cache{{0, -1, -1, 3}, {1, -1, -1, -1}, {-1, -1, -1, 2}}) {
		t.Error(caches)
	}
	want := []api.Span{
		{State: api.SpanClean, Class: 0, Free: 0xfff8}, {State: api.SpanClean, Class: 0, Free: 0xfff8},
		{State: api.SpanClean, Class: 3}, {State: api.SpanClean, Class: 3},
	}
	if !slices.Equal(h.Spans, want) {
		t.Errorf("%+v", h.Spans)
	}
	for _, x := range [][2]int{{0, 15}, {1, 2}, {2, 4}, {2, 1}, {0, 16}} {
		if _, _, at, ok := take.Take(h, caches, x[0], x[1]); ok || at != 0 {
			t.Errorf("Take for %d of %d fields: %d, %t", x[0], x[1], at, ok)
		}
	}
}

// TestTakeOfEachClass is of P11.2: the least class for so many fields, in free pages and in such as are in use.
func TestTakeOfEachClass(t *testing.T) {
	classes := []api.Span{clean3, free, clean2, clean1, clean, free}
	for fields, c := range testheap.ClassFor() {
		h := heapOf(free, free)
		for _, h.Sense = range []bool{false, true} {
			g, d, at, ok := mustTake(t, h, cachesOf(no, no), 1, fields)
			if !ok || at != 0 || g.Spans[0].Class != c || d[1][c] != 0 || testheap.Places(d, 0) != 1 || g.Sense != h.Sense {
				t.Errorf("%d fields: %+v, %v, %d, %t", fields, g.Spans, d, at, ok)
			}
		}
		g, d, _, ok := mustTake(t, heapOf(classes...), cachesOf(no), 0, fields)
		if !ok || d[0][c] != 4-[]int{0, 1, 2, 4}[c] || g.Spans[1] != free || g.Spans[5] != free {
			t.Errorf("%d fields: %+v, %v, %t", fields, g.Spans, d, ok)
		}
	}
}

// TestTakeTillFull is of P11.2: one block after another, then the next page; the full one is in no cache then.
func TestTakeTillFull(t *testing.T) {
	for fields, c := range testheap.ClassFor() {
		h, caches, blocks := heapOf(free, free, free), cachesOf(no), 32/testheap.WordsOf(c)
		for i := range 3 * blocks {
			g, d, at, ok := mustTake(t, h, caches, 0, fields)
			if !ok || at != i*testheap.WordsOf(c) || d[0][c] != i/blocks {
				t.Fatalf("%d fields, the object %d: %v, %d, %t", fields, i, d, at, ok)
			}
			h, caches = g, d
		}
		if _, _, _, ok := mustTake(t, h, caches, 0, fields); ok || testheap.Places(caches, 0) != 0 || caches[0][c] != 2 {
			t.Errorf("%d fields: %v, %t", fields, caches, ok)
		}
	}
}

// TestTakeOfNoClass is of P11.2: h, caches, 0 and false, though there is room.
func TestTakeOfNoClass(t *testing.T) {
	h, caches := heapOf(clean3, free, clean), cachesOf(cache{2, -1, -1, 0}, no)
	for _, fields := range append([]int{16, 17, 31, 32}, testheap.Far()...) {
		for m := range caches {
			if _, _, at, ok := mustTake(t, h, caches, m, fields); ok || at != 0 {
				t.Errorf("Take for %d of %d fields: %d, %t", m, fields, at, ok)
			}
		}
	}
}

// TestTakeOfNoPage is of P11.2: h, caches, 0 and false; a greater class's blocks, others' pages and dirty ones won't do.
func TestTakeOfNoPage(t *testing.T) {
	rows := []struct {
		h         api.Heap
		caches    []cache
		m, fields int
	}{
		{heapOf(full), []cache{{0, -1, -1, -1}}, 0, 1}, {heapOf(dirty), []cache{{0, -1, -1, -1}}, 0, 0},
		{heapOf(clean1, clean2, clean3), []cache{no}, 0, 1}, {heapOf(clean, clean2, clean3), []cache{{0, -1, 1, 2}}, 0, 2},
		{heapOf(clean), []cache{{0, -1, -1, -1}, no}, 1, 0}, {heapOf(empty), []cache{no, no}, 1, 15},
		{heapOf(full3, dirty3), []cache{{-1, -1, -1, 0}, {-1, -1, -1, 1}}, 1, 8},
	}
	for _, r := range rows {
		for _, r.h.Sense = range []bool{false, true} {
			if _, _, at, ok := mustTake(t, r.h, cachesOf(r.caches...), r.m, r.fields); ok || at != 0 {
				t.Errorf("%+v, %v, %d, %d: %d, %t", r.h.Spans, r.caches, r.m, r.fields, at, ok)
			}
		}
	}
}

// TestTakeLeavesADirtyPage is of P11.2 and P11.3: the mutator's cache has the page that was found instead.
func TestTakeLeavesADirtyPage(t *testing.T) {
	for _, r := range []struct {
		h    api.Heap
		page int
		at   int
	}{
		{heapOf(dirty, free, free), 1, 32}, {heapOf(full, free, clean), 2, 64 + 24}, {heapOf(dirty, clean, free), 1, 32 + 24},
	} {
		_, d, at, ok := mustTake(t, r.h, cachesOf(cache{0, -1, -1, -1}, no), 0, 1)
		if !ok || at != r.at || !slices.Equal(d, []cache{{r.page, -1, -1, -1}, no}) {
			t.Errorf("%+v: %v, %d, %t", r.h.Spans, d, at, ok)
		}
	}
}

// sweptOrSo does to a heap and caches of the test's own what others may do between two takings; both stay right.
func sweptOrSo(h api.Heap, caches []cache, next func(int) int) {
	page := next(len(h.Spans))
	s := &h.Spans[page]
	switch next(6) {
	case 0:
		caches[next(len(caches))] = no
	case 1:
		if s.State != api.SpanFree {
			s.State = api.SpanClean + next(2)
		}
	case 2:
		if s.State != api.SpanFree {
			s.Free |= 1 << next(32) & testheap.AllFree(s.Class)
		}
	case 3:
		if testheap.Places(caches, page) == 0 {
			*s = free
		}
	}
}

// TestCachesStayRight is of P11.2 and P11.3: takings in long rows, with what others may do between.
func TestCachesStayRight(t *testing.T) {
	done, refused := 0, 0
	for seed := range 60 {
		next := testheap.Numbers(seed)
		h, caches := heapOf(make([]api.Span, 1+next(16))...), cachesOf(slices.Repeat([]cache{no}, 1+next(8))...)
		top := []int{1, 3, 7, 15, 16}[seed%5]
		for range 150 {
			g, d, _, ok := mustTake(t, h, caches, next(len(caches)), next(top+1))
			if !areRight(g, d) || !take.Right(g, d) {
				t.Fatalf("%+v, %v", g.Spans, d)
			}
			if ok {
				done++
			} else {
				refused++
			}
			h, caches = testheap.Kept(g), slices.Clone(d)
			sweptOrSo(h, caches, next)
			for page := -1; page <= len(h.Spans); page++ {
				if take.Kept(caches, page) != (page >= 0 && testheap.Places(caches, page) > 0) {
					t.Fatalf("Kept(%v, %d)", caches, page)
				}
			}
		}
	}
	if done < 1000 || refused < 1000 {
		t.Errorf("too few: %d done, %d refused", done, refused)
	}
}

// TestStays is of P11.4: what is handed in stays, the room behind the lists included.
func TestStays(t *testing.T) {
	h := heapOf(clean, free, clean3, full, dirty)
	for _, caches := range [][]cache{cachesOf(no, no), cachesOf(cache{0, -1, -1, 2}, cache{3, -1, -1, -1}), cachesOf(cache{4, -1, -1, -1}, no)} {
		was, kept := testheap.Kept(h), slices.Clone(testheap.Whole(caches))
		for m := range caches {
			for fields := -1; fields <= 16; fields++ {
				take.Take(h, caches, m, fields)
			}
			for c := range api.Classes {
				take.Page(h, caches, m, c)
			}
			take.Right(h, caches)
			take.Kept(caches, m)
		}
		if !testheap.Untouched(h, was) || !slices.Equal(testheap.Whole(caches), kept) {
			t.Errorf("%v changed to %v, %+v", kept, caches, h)
		}
	}
}

// TestNewMemory is of P11.4: heaps and caches that are answered share nothing, whether a page is opened or not.
func TestNewMemory(t *testing.T) {
	for _, r := range []struct {
		caches    []cache
		m, fields int
	}{
		{cachesOf(cache{0, -1, -1, -1}, no), 0, 1}, {cachesOf(no, no), 1, 1}, {cachesOf(no, cache{0, -1, -1, -1}), 0, 1},
		{cachesOf(no), 0, 5}, {cachesOf(cache{-1, -1, -1, 2}), 0, 15},
	} {
		if !testheap.OfNewMemory(heapOf(clean, free, clean3), func(h api.Heap) (api.Heap, bool) {
			g, _, _, ok := take.Take(h, r.caches, r.m, r.fields)
			return g, ok
		}) {
			t.Errorf("Take with %v of %d fields: its heap isn't of new memory", r.caches, r.fields)
		}
		h, kept := heapOf(clean, free, clean3), slices.Clone(testheap.Whole(r.caches))
		_, one, _, _ := take.Take(h, r.caches, r.m, r.fields)
		_, two, _, _ := take.Take(h, r.caches, r.m, r.fields)
		want := slices.Clone(two)
		for i := range testheap.Whole(one) {
			testheap.Whole(one)[i] = cache{7, 7, 7, 7}
		}
		if !slices.Equal(testheap.Whole(r.caches), kept) || !slices.Equal(two, want) {
			t.Errorf("Take with %v of %d fields: its caches aren't of new memory", kept, r.fields)
		}
		for i := range testheap.Whole(r.caches) {
			testheap.Whole(r.caches)[i] = cache{8, 8, 8, 8}
		}
		if !slices.Equal(two, want) {
			t.Errorf("Take with %v of %d fields: its caches are kept", kept, r.fields)
		}
	}
}

// TestNoSuchMutator is of DOC.md's P1's edge: nothing is promised of a mutator that has no cache, nor of no class, but the calls end.
func TestNoSuchMutator(t *testing.T) {
	h, caches := heapOf(clean, free), cachesOf(cache{0, -1, -1, -1}, no)
	for _, n := range append([]int{2, 3, 8}, testheap.Far()...) {
		take.Take(h, caches, n, 1)
		take.Page(h, caches, n, 0)
		take.Page(h, caches, 0, n+2)
		take.Take(h, nil, n, 1)
	}
	take.Take(h, []cache{{9, -2, math.MaxInt, math.MinInt}}, 0, 1)
	take.Take(h, []cache{{9, -2, math.MaxInt, math.MinInt}}, 0, 15)
	take.Right(api.Heap{}, caches)
}

// FuzzTake is of P11.1 to P11.3: takings, and what others do between, as a text of bytes has it.
func FuzzTake(f *testing.F) {
	f.Add([]byte{2, 1, 0, 1, 9, 9, 1, 0, 3, 4}, true)
	f.Add([]byte{0, 0, 0, 15, 1, 1, 0, 15, 0, 0, 0, 15, 0, 0}, false)
	f.Add([]byte{15, 7, 3, 2, 0, 1, 2, 3, 4, 5, 6, 7, 8, 9, 10, 11, 12}, true)
	f.Fuzz(func(t *testing.T, l []byte, sense bool) {
		next := func(below int) int {
			if len(l) == 0 {
				return 0
			}
			n := int(l[0]) % below
			l = l[1:]
			return n
		}
		h, caches := heapOf(make([]api.Span, 1+next(16))...), cachesOf(slices.Repeat([]cache{no}, 1+next(8))...)
		h.Sense = sense
		for len(l) > 0 {
			m, c := next(len(caches)), next(api.Classes)
			mustFind(t, h, caches, m, c, testheap.Found(h, caches, m, c))
			g, d, _, _ := mustTake(t, h, caches, m, next(18)-1)
			if !take.Right(g, d) || !areRight(g, d) {
				t.Fatalf("%+v, %v", g.Spans, d)
			}
			h, caches = testheap.Kept(g), slices.Clone(d)
			sweptOrSo(h, caches, next)
		}
	})
}
