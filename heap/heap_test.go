package heap_test

import (
	"slices"
	"testing"

	"flotsam/api"
	"flotsam/heap"
	"flotsam/testheap"
)

// wordsOf, blocksOf and fieldsOf are what the chapters 2 and 4 say of each class.
var (
	wordsOf  = []int{2, 4, 8, 16}
	blocksOf = []int{16, 8, 4, 2}
	fieldsOf = []int{1, 3, 7, 15}
)

// heapOf answers a heap of these spans, each of whose words tells its address, with room behind both lists.
func heapOf(spans ...api.Span) api.Heap {
	words := make([]uint64, 32*len(spans))
	for at := range words {
		words[at] = uint64(at)<<8 + 7
	}
	return api.Heap{Words: testheap.WithRoom(words, 77), Spans: testheap.WithRoom(spans, api.Span{State: 7, Class: 7, Free: 7})}
}

// mixed answers a heap of pages of all kinds, written out by hand; its sense is true.
func mixed() api.Heap {
	h := heapOf(
		api.Span{State: api.SpanClean, Class: 0, Free: 0xfffa},
		api.Span{},
		api.Span{State: api.SpanClean, Class: 1, Free: 0xf0},
		api.Span{State: api.SpanClean, Class: 2, Free: 0xb},
		api.Span{State: api.SpanClean, Class: 3, Free: 2},
		api.Span{State: api.SpanClean, Class: 3, Free: 0},
		api.Span{State: api.SpanClean, Class: 2, Free: 0xf},
		api.Span{State: api.SpanDirty, Class: 2, Free: 0xf},
		api.Span{State: api.SpanDirty, Class: 0, Free: 0x8001},
		api.Span{State: api.SpanDirty, Class: 1, Free: 0},
		api.Span{State: api.SpanClean, Class: 0, Free: 0x8000},
	)
	h.Sense = true
	return h
}

// forms are heaps that have their form: of one page, of all pages, of one sense and the other.
func forms() []api.Heap {
	all := make([]api.Span, api.MaxPages)
	for i := range all {
		all[i] = api.Span{State: 1 + i%2, Class: i % 4, Free: 1}
	}
	one := heapOf(api.Span{State: api.SpanClean, Class: 3, Free: 3})
	one.Sense = true
	return []api.Heap{heapOf(api.Span{}), one, mixed(), heapOf(all...), heapOf(make([]api.Span, api.MaxPages)...)}
}

// isFree tells whether a right span has no such block, or that is free.
func isFree(s api.Span, index int) bool {
	return s.State == api.SpanFree || index >= blocksOf[s.Class] || s.Free>>index&1 == 1
}

// leastFree answers the index of a right span's least free block; -1 of a full one, and of one that isn't clean.
func leastFree(s api.Span) int {
	for i := 0; s.State == api.SpanClean && i < blocksOf[s.Class]; i++ {
		if isFree(s, i) {
			return i
		}
	}
	return -1
}

// TestNew is of P7.1: free pages, words that are 0, no sense.
func TestNew(t *testing.T) {
	for pages := 1; pages <= 16; pages++ {
		want := api.Heap{Words: make([]uint64, 32*pages), Spans: make([]api.Span, pages)}
		if h, e := heap.New(pages); e != api.OK || !testheap.Same(h, want) {
			t.Errorf("New(%d): %+v, %d", pages, h, e)
		}
	}
}

// TestNewOfWrongPages is of P7.1: Heap{} and ErrArg.
func TestNewOfWrongPages(t *testing.T) {
	for _, pages := range append([]int{0, 17, 18, 32, 256 + 1}, testheap.Far()...) {
		if h, e := heap.New(pages); e != api.ErrArg || !testheap.Same(h, api.Heap{}) {
			t.Errorf("New(%d): %+v, %d", pages, h, e)
		}
	}
}

// TestForm is of P7.1: what words there are, and the sense, is all one.
func TestForm(t *testing.T) {
	for i, h := range forms() {
		for range 2 {
			if !heap.Form(h) {
				t.Errorf("form %d, sense %t: false", i, h.Sense)
			}
			h.Sense = !h.Sense
		}
	}
	for pages := 1; pages <= 16; pages++ {
		if !heap.Form(heapOf(make([]api.Span, pages)...)) {
			t.Errorf("%d free pages: false", pages)
		}
	}
}

// TestNoForm is of P7.1: no pages, too many, too few words or too many, a span that isn't right in any page.
func TestNoForm(t *testing.T) {
	wrong := []api.Heap{{}, {Sense: true}, {Words: []uint64{}, Spans: []api.Span{}}, {Words: make([]uint64, 32)}, {Spans: make([]api.Span, 1)}}
	for _, pages := range []int{17, 18, 32} {
		wrong = append(wrong, heapOf(make([]api.Span, pages)...))
	}
	for pages := 1; pages <= 16; pages++ {
		for _, words := range []int{0, 1, pages, 31, 32*pages - 32, 32*pages - 1, 32*pages + 1, 32*pages + 32, 64 * pages} {
			if words != 32*pages {
				wrong = append(wrong, api.Heap{Words: make([]uint64, words), Spans: make([]api.Span, pages)})
			}
		}
	}
	for _, s := range []api.Span{
		{State: 3}, {State: -1}, {Class: 1}, {Free: 1}, {State: 1, Class: 4}, {State: 2, Class: -1},
		{State: 1, Class: 0, Free: 1 << 16}, {State: 1, Class: 3, Free: 4}, {State: 2, Class: 1, Free: 1 << 8}, {State: 2, Class: 2, Free: 1 << 31},
	} {
		for page := range 3 {
			spans := make([]api.Span, 3)
			spans[page] = s
			wrong = append(wrong, heapOf(spans...))
		}
	}
	for i, h := range wrong {
		if heap.Form(h) {
			t.Errorf("wrong %d: %d words, %+v: true", i, len(h.Words), h.Spans)
		}
	}
}

// TestFind is of P7.1: which block begins there, worked out by hand; whether it is free is all one.
func TestFind(t *testing.T) {
	h := mixed()
	for _, x := range []struct{ at, page, index int }{
		{0, 0, 0}, {2, 0, 1}, {30, 0, 15}, {64, 2, 0}, {68, 2, 1}, {92, 2, 7}, {96, 3, 0}, {104, 3, 1}, {120, 3, 3},
		{128, 4, 0}, {144, 4, 1}, {160, 5, 0}, {192, 6, 0}, {224, 7, 0}, {248, 7, 3}, {256, 8, 0}, {286, 8, 15}, {288, 9, 0}, {350, 10, 15},
	} {
		if page, index, ok := heap.Find(h, x.at); page != x.page || index != x.index || !ok {
			t.Errorf("Find(h, %d): %d, %d, %t; not %d, %d, true", x.at, page, index, ok, x.page, x.index)
		}
	}
}

// TestFindEverywhere is of P7.1: at each address of each heap, and about them, just where a block begins.
func TestFindEverywhere(t *testing.T) {
	for i, h := range forms() {
		begins := map[int][2]int{}
		for page, s := range h.Spans {
			for index := 0; s.State != api.SpanFree && index < blocksOf[s.Class]; index++ {
				begins[32*page+index*wordsOf[s.Class]] = [2]int{page, index}
			}
		}
		addresses := testheap.Far()
		for at := -100; at < 700; at++ {
			addresses = append(addresses, at)
		}
		for _, at := range addresses {
			want, is := begins[at]
			if page, index, ok := heap.Find(h, at); page != want[0] || index != want[1] || ok != is {
				t.Errorf("form %d: Find(h, %d): %d, %d, %t; not %v, %t", i, at, page, index, ok, want, is)
			}
		}
	}
}

// TestOpen is of P7.2: a free page gets a new span; every other span, the words and the sense stay.
func TestOpen(t *testing.T) {
	for i, h := range forms() {
		for page, s := range h.Spans {
			for c, free := range []uint32{0xffff, 0xff, 0xf, 3} {
				want := testheap.Kept(h)
				if s.State == api.SpanFree {
					want.Spans[page] = api.Span{State: api.SpanClean, Class: c, Free: free}
				}
				if n, ok := heap.Open(h, page, c); !testheap.Same(n, want) || ok != (s.State == api.SpanFree) {
					t.Errorf("form %d: Open(h, %d, %d): %+v, %t", i, page, c, n.Spans, ok)
				}
			}
		}
	}
}

// TestNoOpen is of P7.2: h and false of no such page, no such class, a page in use even of that class.
func TestNoOpen(t *testing.T) {
	h := mixed()
	refused := [][2]int{{1, 4}, {1, 5}, {1, 7}, {11, 0}, {12, 3}, {16, 0}, {17, 2}, {0, 0}, {6, 2}, {7, 2}, {0, 4}, {11, 4}}
	for _, n := range testheap.Far() {
		refused = append(refused, [2]int{n, 0}, [2]int{n, 3}, [2]int{1, n}, [2]int{n, n})
	}
	for _, x := range refused {
		if n, ok := heap.Open(h, x[0], x[1]); ok || !testheap.Same(n, h) {
			t.Errorf("Open(h, %d, %d): %+v, %t", x[0], x[1], n.Spans, ok)
		}
	}
}

// TestClose is of P7.2: just a page in use all of whose blocks are free, clean or dirty; all else stays, its words too.
func TestClose(t *testing.T) {
	for c, free := range []uint32{0xffff, 0xff, 0xf, 3} {
		for _, state := range []int{api.SpanClean, api.SpanDirty} {
			for _, missing := range []uint32{0, 1, free/2 + 1, free} {
				for page := range 3 {
					h := heapOf(api.Span{}, api.Span{State: api.SpanClean, Class: 1, Free: 0xff}, api.Span{State: api.SpanDirty, Class: 3})
					h.Spans[page], h.Sense = api.Span{State: state, Class: c, Free: free &^ missing}, page == 1
					want := testheap.Kept(h)
					if missing == 0 {
						want.Spans[page] = api.Span{}
					}
					if n, ok := heap.Close(h, page); !testheap.Same(n, want) || ok != (missing == 0) {
						t.Errorf("Close(h, %d) of %+v: %+v, %t", page, h.Spans[page], n, ok)
					}
				}
			}
		}
	}
}

// TestNoClose is of P7.2: h and false of no such page, a free one, one with a block that isn't free.
func TestNoClose(t *testing.T) {
	h := mixed()
	for _, page := range append([]int{0, 1, 2, 3, 4, 5, 8, 9, 10, 11, 12, 16, 17, 32}, testheap.Far()...) {
		if n, ok := heap.Close(h, page); ok || !testheap.Same(n, h) {
			t.Errorf("Close(h, %d): %+v, %t", page, n.Spans, ok)
		}
	}
}

// TestLay is of P7.3: addresses and first words, worked out by hand, in both senses; a Count may be less than there is room for.
func TestLay(t *testing.T) {
	for _, x := range []struct {
		page, fields, at int
		head             uint64
	}{
		{0, 1, 2, 129}, {0, 0, 2, 128}, {2, 3, 80, 147}, {2, 0, 80, 144}, {2, 2, 80, 146},
		{3, 7, 96, 167}, {3, 3, 96, 163}, {4, 15, 144, 191}, {4, 9, 144, 185}, {4, 0, 144, 176}, {6, 4, 192, 164}, {10, 1, 350, 129},
	} {
		for _, sense := range []bool{false, true} {
			h, head := mixed(), x.head
			if h.Sense = sense; sense {
				head += 64
			}
			n, at, ok := heap.Lay(h, x.page, x.fields)
			if !ok || at != x.at || n.Words[at] != head {
				t.Errorf("sense %t: Lay(h, %d, %d): %d, %t; not %d, true", sense, x.page, x.fields, at, ok, x.at)
			}
		}
	}
}

// TestLayOne is of P7.3: the chapter's example.
func TestLayOne(t *testing.T) {
	h, _ := heap.New(2)
	h, _ = heap.Open(h, 1, 3)
	if n, at, ok := heap.Lay(h, 1, 9); at != 32 || !ok || n.Words[32] != 128+48+9 || heap.Used(n) != 16 {
		t.Errorf("Lay: %+v, %d, %t", n, at, ok)
	}
}

// TestLayEverywhere is of P7.3: in each page of each heap, of each number of fields: the least free block is taken, its
// other words are 0 whatever they were, and all else stays; or nothing at all does.
func TestLayEverywhere(t *testing.T) {
	for i, h := range forms() {
		for page, s := range h.Spans {
			for fields := -1; fields <= 17; fields++ {
				index, want, wantAt := leastFree(s), testheap.Kept(h), 0
				can := index >= 0 && fields >= 0 && fields <= fieldsOf[s.Class]
				if can {
					wantAt = 32*page + index*wordsOf[s.Class]
					want.Spans[page].Free -= 1 << index
					clear(want.Words[wantAt : wantAt+wordsOf[s.Class]])
					want.Words[wantAt] = uint64(128 + 16*s.Class + fields)
					if h.Sense {
						want.Words[wantAt] += 64
					}
				}
				if n, at, ok := heap.Lay(h, page, fields); !testheap.Same(n, want) || at != wantAt || ok != can {
					t.Errorf("form %d: Lay(h, %d, %d): %d, %t; not %d, %t", i, page, fields, at, ok, wantAt, can)
				}
			}
		}
	}
}

// TestNoLay is of P7.3: h, 0 and false of no such page, no block to take, no room for the fields.
func TestNoLay(t *testing.T) {
	h := mixed()
	refused := [][2]int{
		{1, 0}, {5, 0}, {7, 0}, {8, 0}, {9, 0}, {11, 0}, {12, 0}, {16, 0}, {5, 15}, {7, 7},
		{0, 2}, {2, 4}, {3, 8}, {4, 16}, {0, 3}, {2, 7}, {3, 15}, {0, -1}, {2, -1}, {3, -1}, {4, -1}, {4, 32}, {11, 16},
	}
	for _, n := range testheap.Far() {
		refused = append(refused, [2]int{n, 0}, [2]int{0, n}, [2]int{4, n}, [2]int{n, n})
	}
	for _, x := range refused {
		if n, at, ok := heap.Lay(h, x[0], x[1]); ok || at != 0 || !testheap.Same(n, h) {
			t.Errorf("Lay(h, %d, %d): %d, %t", x[0], x[1], at, ok)
		}
	}
}

// TestFree is of P7.3: at each address and about them, just a block that isn't free, of clean pages and of dirty ones;
// its words are 0, all else stays.
func TestFree(t *testing.T) {
	for i, h := range forms() {
		taken := map[int][2]int{}
		for page, s := range h.Spans {
			for index := range blocksOf[s.Class] {
				if !isFree(s, index) {
					taken[32*page+index*wordsOf[s.Class]] = [2]int{page, index}
				}
			}
		}
		addresses := testheap.Far()
		for at := -40; at < 600; at++ {
			addresses = append(addresses, at)
		}
		for _, at := range addresses {
			place, can := taken[at]
			want := testheap.Kept(h)
			if can {
				want.Spans[place[0]].Free += 1 << place[1]
				clear(want.Words[at : at+wordsOf[h.Spans[place[0]].Class]])
			}
			if n, ok := heap.Free(h, at); !testheap.Same(n, want) || ok != can {
				t.Errorf("form %d: Free(h, %d): %t, not %t", i, at, ok, can)
			}
		}
	}
}

// TestFreeByHand is of P7.3: what is freed, and what is refused: a free block, an address within one, a free page's, none.
func TestFreeByHand(t *testing.T) {
	h := mixed()
	for _, x := range []struct{ at, page, words int }{{0, 0, 2}, {4, 0, 2}, {64, 2, 4}, {112, 3, 8}, {128, 4, 16}, {176, 5, 16}, {258, 8, 2}, {316, 9, 4}} {
		n, ok := heap.Free(h, x.at)
		if !ok || heap.Used(n) != heap.Used(h)-x.words || n.Words[x.at] != 0 || n.Words[x.at+x.words-1] != 0 || n.Words[x.at+x.words] == 0 {
			t.Errorf("Free(h, %d): %t", x.at, ok)
		}
	}
	for _, at := range []int{2, 30, 1, 3, 32, 33, 80, 92, 65, 96, 104, 113, 144, 136, 192, 224, 256, 286, 350, 351, 352, 480} {
		if n, ok := heap.Free(h, at); ok || !testheap.Same(n, h) {
			t.Errorf("Free(h, %d): %t", at, ok)
		}
	}
}

// TestUsed is of P7.3: worked out by hand, dirty pages counted as clean ones are.
func TestUsed(t *testing.T) {
	for i, want := range []int{0, 0, 2*2 + 4*4 + 1*8 + 1*16 + 2*16 + 0 + 0 + 14*2 + 8*4 + 15*2, 4*15*2 + 4*7*4 + 4*3*8 + 4*1*16, 0} {
		if got := heap.Used(forms()[i]); got != want {
			t.Errorf("form %d: Used: %d, not %d", i, got, want)
		}
	}
	for c, words := range wordsOf {
		for _, state := range []int{api.SpanClean, api.SpanDirty} {
			for free := range uint32(1) << blocksOf[c] {
				want, s := 0, api.Span{State: state, Class: c, Free: free}
				for index := range blocksOf[c] {
					if !isFree(s, index) {
						want += words
					}
				}
				if got := heap.Used(api.Heap{Words: make([]uint64, 32), Spans: []api.Span{s}}); got != want {
					t.Fatalf("Used of %+v: %d, not %d", s, got, want)
				}
			}
		}
	}
}

// object is one that a walk has laid: its page, where it is, its block's words.
type object struct {
	page, at int
	words    []uint64
}

// walk is a heap, and what must be in it.
type walk struct {
	t       *testing.T
	h       api.Heap
	objects []object
}

// check holds the heap against the walk's objects: they are there, each with its words, apart, and nothing else is in use.
func (w *walk) check() {
	w.t.Helper()
	if !heap.Form(w.h) {
		w.t.Fatalf("no form: %+v", w.h)
	}
	whose, used := map[int]int{}, 0
	for _, o := range w.objects {
		if page, index, ok := heap.Find(w.h, o.at); !ok || page != o.page || isFree(w.h.Spans[page], index) {
			w.t.Fatalf("an object at %d: %d, %d, %t", o.at, page, index, ok)
		}
		for i, word := range o.words {
			if other, ok := whose[o.at+i]; ok {
				w.t.Fatalf("the word %d is of the objects at %d and at %d", o.at+i, other, o.at)
			}
			whose[o.at+i] = o.at
			if w.h.Words[o.at+i] != word {
				w.t.Fatalf("the word %d of the object at %d: %d, not %d", i, o.at, w.h.Words[o.at+i], word)
			}
		}
		used += len(o.words)
	}
	if heap.Used(w.h) != used {
		w.t.Fatalf("Used: %d, not %d", heap.Used(w.h), used)
	}
}

// lay lays an object, and writes into its fields what no other one has.
func (w *walk) lay(page, fields int, mark uint64) {
	n, at, ok := heap.Lay(w.h, page, fields)
	w.h = n
	if !ok {
		return
	}
	size := wordsOf[n.Spans[page].Class]
	for i := 1; i <= fields; i++ {
		n.Words[at+i] = mark<<8 + uint64(i)
	}
	w.objects = append(w.objects, object{page, at, slices.Clone(n.Words[at : at+size])})
}

// free frees what is at an address, and must just if an object is.
func (w *walk) free(at int) {
	i := slices.IndexFunc(w.objects, func(o object) bool { return o.at == at })
	n, ok := heap.Free(w.h, at)
	if ok != (i >= 0) {
		w.t.Fatalf("Free at %d: %t", at, ok)
	}
	if w.h = n; ok {
		w.objects = slices.Delete(w.objects, i, i+1)
	}
}

// turn is one step of a walk, told by three numbers.
func (w *walk) turn(what, a, b int, mark uint64) {
	switch what % 8 {
	case 0:
		w.h, _ = heap.Open(w.h, a, b)
	case 1:
		w.h, _ = heap.Close(w.h, a)
	case 2:
		w.h.Sense = !w.h.Sense
	case 3: // a page is dirty, or clean again: the heap is the walk's own
		if a >= 0 && a < len(w.h.Spans) && w.h.Spans[a].State != api.SpanFree {
			w.h.Spans[a].State = 3 - w.h.Spans[a].State
		}
	case 4:
		w.free(32*a + b)
	case 5:
		if len(w.objects) > 0 {
			w.free(w.objects[(a&15*16+b&15)%len(w.objects)].at)
		}
	default:
		w.lay(a, b, mark)
	}
	w.check()
}

// TestObjectsLieApart is of P7.4: through many turns on heaps of few pages and of many.
func TestObjectsLieApart(t *testing.T) {
	for _, pages := range []int{1, 2, 3, 7, 16} {
		h, _ := heap.New(pages)
		w := &walk{t: t, h: h}
		next := testheap.Numbers(pages)
		most := 0
		for mark := range uint64(4000) {
			what, a, b := next(8), next(pages+1), next(18)-1
			if what == 0 {
				b %= 5
			}
			w.turn(what, a, b, mark)
			most = max(most, len(w.objects))
		}
		if most < 2 {
			t.Errorf("%d pages: never more than %d objects", pages, most)
		}
	}
}

// TestAHeapIsFilled is of P7.4: all of an arena's words are laid once, freed, closed, and used again by another class.
func TestAHeapIsFilled(t *testing.T) {
	h, _ := heap.New(16)
	w := &walk{t: t, h: h}
	for c := range 4 {
		for page := range 16 {
			w.turn(0, page, c, 0)
			for range blocksOf[c] + 1 {
				w.turn(6, page, fieldsOf[c], uint64(page))
			}
		}
		if heap.Used(w.h) != 512 || len(w.objects) != 16*blocksOf[c] {
			t.Errorf("class %d: %d words of %d objects", c, heap.Used(w.h), len(w.objects))
		}
		for len(w.objects) > 0 {
			w.turn(5, 3, 1, 0)
		}
		for page := range 16 {
			w.turn(1, page, 0, 0)
		}
		if !testheap.Same(w.h, api.Heap{Words: make([]uint64, 512), Spans: make([]api.Span, 16)}) {
			t.Errorf("class %d: %+v isn't as a new heap", c, w.h)
		}
	}
}

// calls are all that answer a heap, each with arguments that mixed lets be.
var calls = []struct {
	name string
	call func(h api.Heap) (api.Heap, bool)
}{
	{"Open", func(h api.Heap) (api.Heap, bool) { return heap.Open(h, 1, 2) }},
	{"Close", func(h api.Heap) (api.Heap, bool) { return heap.Close(h, 6) }},
	{"Lay", func(h api.Heap) (api.Heap, bool) { n, _, ok := heap.Lay(h, 3, 5); return n, ok }},
	{"Free", func(h api.Heap) (api.Heap, bool) { return heap.Free(h, 128) }},
}

// TestHandedInStays is of P7.5: no call, done or refused, changes a heap or the room behind its lists.
func TestHandedInStays(t *testing.T) {
	for i, h := range forms() {
		was := testheap.Kept(h)
		for at := -2; at <= 520; at++ {
			heap.Find(h, at)
			heap.Free(h, at)
		}
		for page := -1; page <= 17; page++ {
			heap.Close(h, page)
			for n := -1; n <= 17; n++ {
				heap.Open(h, page, n)
				heap.Lay(h, page, n)
			}
		}
		heap.Form(h)
		heap.Used(h)
		if !testheap.Untouched(h, was) {
			t.Errorf("form %d: %+v, that was %+v", i, h, was)
		}
	}
}

// TestAnsweredIsNew is of P7.5: what is written into an answer is seen in nothing else, nor the other way round, and
// what a call leaves as it was is new too.
func TestAnsweredIsNew(t *testing.T) {
	for _, x := range calls {
		if !testheap.OfNewMemory(mixed(), x.call) {
			t.Errorf("%s: not done, or the answer shares memory", x.name)
		}
	}
	one, _ := heap.New(2)
	two, _ := heap.New(2)
	testheap.Scrawl(one)
	if !testheap.Same(two, api.Heap{Words: make([]uint64, 64), Spans: make([]api.Span, 2)}) {
		t.Errorf("New: %+v isn't new", two)
	}
}

// FuzzWalk is of P7.1 to P7.4, of whatever turns come.
func FuzzWalk(f *testing.F) {
	f.Add(2, []byte{0, 1, 3, 6, 1, 9, 6, 1, 15, 5, 0, 0, 4, 1, 16, 1, 1, 0})
	f.Add(1, []byte{0, 0, 0, 2, 0, 0, 6, 0, 1, 6, 0, 0, 3, 0, 0, 6, 0, 1, 4, 0, 2, 3, 0, 0, 6, 0, 1, 4, 0, 1})
	f.Add(16, []byte{0, 15, 2, 6, 15, 7, 6, 15, 8, 6, 15, 255, 1, 15, 0, 4, 15, 0, 1, 15, 0, 1, 255, 0, 0, 255, 1})
	f.Add(0, []byte{6, 0, 0})
	f.Add(17, []byte{})
	f.Fuzz(func(t *testing.T, pages int, turns []byte) {
		h, e := heap.New(pages)
		if pages < 1 || pages > 16 {
			if e != api.ErrArg || !testheap.Same(h, api.Heap{}) {
				t.Errorf("New(%d): %+v, %d", pages, h, e)
			}
			return
		}
		w := &walk{t: t, h: h}
		for i := 0; i+2 < len(turns); i += 3 {
			w.turn(int(turns[i]), int(int8(turns[i+1])), int(int8(turns[i+2])), uint64(i))
		}
	})
}
