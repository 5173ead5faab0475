package sound_test

import (
	"math"
	"testing"

	"flotsam/api"
	"flotsam/heap"
	"flotsam/object"
	"flotsam/sound"
	"flotsam/testheap"
)

// blocksOf are how many blocks of each class a page has (chapter 4).
var blocksOf = []int{16, 8, 4, 2}

// refTo is the word of a Ref (chapter 1).
func refTo(at int) uint64 { return 2 * (uint64(at) + 1) }

// whole answers a sound heap, written out by hand, of pages and objects of all kinds; its sense is true.
func whole() api.Heap {
	h := testheap.Blank(
		api.Span{State: api.SpanClean, Class: 0, Free: 0x7ffc},
		api.Span{},
		api.Span{State: api.SpanClean, Class: 1, Free: 0x7e},
		api.Span{State: api.SpanDirty, Class: 2, Free: 4},
		api.Span{State: api.SpanClean, Class: 3, Free: 0},
		api.Span{State: api.SpanDirty, Class: 0, Free: 0xfffe},
		api.Span{State: api.SpanClean, Class: 1, Free: 0xff},
		api.Span{State: api.SpanDirty, Class: 3, Free: 2},
	)
	h.Sense = true
	testheap.Write(h, 0, 193, refTo(2))                                               // black
	testheap.Write(h, 2, 128)                                                         // white, no field
	testheap.Write(h, 30, 129, refTo(128))                                            // white
	testheap.Write(h, 64, 211, 0, 11, refTo(64))                                      // black: Nil, Int 5, itself
	testheap.Write(h, 92, 145, refTo(30))                                             // white
	testheap.Write(h, 96, 231, refTo(96), refTo(104), refTo(120), 0, 1, 3, refTo(0))  // black, in a dirty page
	testheap.Write(h, 104, 162, 67, refTo(1))                                         // white, in a dirty page, to no object
	testheap.Write(h, 120, 160)                                                       // white, in a dirty page, no field
	testheap.Write(h, 128, 255, 1, 3, 5, 7, 9, 11, 13, 0, 0, refTo(224), 0, 0, 0, 65) // black, 15 fields
	testheap.Write(h, 143, refTo(144))                                                // the last of these
	testheap.Write(h, 144, 178, refTo(120), refTo(144))                               // white
	testheap.Write(h, 160, 129, 1<<63+2)                                              // white, in a dirty page, to no object, far off
	testheap.Write(h, 224, 240)                                                       // black, in a dirty page, no field
	return h
}

// turned answers a heap as whole, but that turn was done with it.
func turned(turn func(h *api.Heap)) api.Heap {
	h := whole()
	turn(&h)
	return h
}

// withWord answers a heap as whole, but that w is at an address.
func withWord(at int, w uint64) api.Heap {
	return turned(func(h *api.Heap) { h.Words[at] = w })
}

// withSpan answers a heap as whole, but that a page's span is another one.
func withSpan(page int, s api.Span) api.Heap {
	return turned(func(h *api.Heap) { h.Spans[page] = s })
}

// must fails, if the heap doesn't break that rule first, or, if rule is 0, isn't sound.
func must(t *testing.T, name string, h api.Heap, rule int) {
	t.Helper()
	if n, ok := sound.Check(h), sound.Ok(h); n != rule || ok != (rule == 0) {
		t.Errorf("%s: Check: %d, not %d; Ok: %t", name, n, rule, ok)
	}
}

// TestExamples is of P9.1: the chapter's examples, of a new heap of any number of pages.
func TestExamples(t *testing.T) {
	for pages := 1; pages <= api.MaxPages; pages++ {
		h, _ := heap.New(pages)
		must(t, "a new heap", h, 0)
		for at := range h.Words {
			h.Words[at] = 1
			must(t, "with a word 1 in a page that is free", h, 2)
			h.Words[at] = 0
		}
	}
}

// TestSound is of P9.1: heaps that break no rule.
func TestSound(t *testing.T) {
	must(t, "whole", whole(), 0)
	for name, h := range map[string]api.Heap{
		"another Int":                        withWord(1, 9),
		"a Nil":                              withWord(1, 0),
		"the greatest Int":                   withWord(1, math.MaxUint64),
		"a Ref of an object further up":      withWord(1, refTo(224)),
		"a Ref of a white one, to be swept":  withWord(97, refTo(160)),
		"a white one made black":             withWord(92, 209),
		"a black one made white":             withWord(64, 147),
		"a field more":                       withWord(92, 147),
		"a field less, that is Nil":          turned(func(h *api.Heap) { testheap.Write(*h, 64, 209, 0, 0, 0) }),
		"an empty page, dirty":               withSpan(6, api.Span{State: api.SpanDirty, Class: 1, Free: 0xff}),
		"an empty page of another class":     withSpan(6, api.Span{State: api.SpanClean, Class: 3, Free: 3}),
		"an empty page, closed":              withSpan(6, api.Span{}),
		"a free page, opened":                withSpan(1, api.Span{State: api.SpanClean, Class: 2, Free: 0xf}),
		"a page whose refs are whole, dirty": withSpan(0, api.Span{State: api.SpanDirty, Class: 0, Free: 0x7ffc}),
		"a page whose refs are whole, clean": withSpan(7, api.Span{State: api.SpanClean, Class: 3, Free: 2}),
		"free blocks alone, of each class":   testheap.Blank(api.Span{State: 1, Free: 0xffff}, api.Span{State: 2, Class: 1, Free: 0xff}, api.Span{State: 1, Class: 2, Free: 15}, api.Span{State: 2, Class: 3, Free: 3}),
	} {
		must(t, name, h, 0)
	}
}

// formless are heaps that have not their form, all else of them sound.
func formless() map[string]api.Heap {
	return map[string]api.Heap{
		"nothing":         {},
		"empty lists":     {Words: []uint64{}, Spans: []api.Span{}},
		"a sense alone":   {Sense: true},
		"no words":        turned(func(h *api.Heap) { h.Words = nil }),
		"no spans":        turned(func(h *api.Heap) { h.Spans = nil }),
		"a word less":     turned(func(h *api.Heap) { h.Words = h.Words[:255] }),
		"a word more":     turned(func(h *api.Heap) { h.Words = append(h.Words[:256:256], 0) }),
		"a page more":     turned(func(h *api.Heap) { h.Words = append(h.Words[:256:256], make([]uint64, 32)...) }),
		"a span less":     turned(func(h *api.Heap) { h.Spans = h.Spans[:7] }),
		"a span more":     turned(func(h *api.Heap) { h.Spans = append(h.Spans[:8:8], api.Span{}) }),
		"17 pages":        testheap.Blank(make([]api.Span, 17)...),
		"a state 3":       withSpan(7, api.Span{State: 3, Class: 3, Free: 2}),
		"a state -1":      withSpan(0, api.Span{State: -1, Free: 0x7ffc}),
		"a class 4":       withSpan(6, api.Span{State: api.SpanClean, Class: 4, Free: 0}),
		"a class -1":      withSpan(6, api.Span{State: api.SpanDirty, Class: -1, Free: 0}),
		"a free class":    withSpan(1, api.Span{Class: 1}),
		"free and a mask": withSpan(1, api.Span{Free: 1}),
		"a block more":    withSpan(2, api.Span{State: api.SpanClean, Class: 1, Free: 0x17e}),
		"a far block":     withSpan(7, api.Span{State: api.SpanDirty, Class: 3, Free: 1<<31 + 2}),
	}
}

// TestForm is of P9.1: the rule 1.
func TestForm(t *testing.T) {
	for name, h := range formless() {
		must(t, name, h, 1)
	}
}

// TestZeroWhereFree is of P9.1: the rule 2 of words that are in a free page, or in a free block of whatever span.
func TestZeroWhereFree(t *testing.T) {
	free := []int{4, 5, 28, 29, 32, 33, 48, 63, 68, 71, 88, 91, 112, 113, 119, 162, 163, 190, 191, 192, 195, 220, 223, 240, 241, 255}
	for _, at := range free {
		for _, w := range []uint64{1, 2, 64, 128, 129, 193, 1 << 32, 1 << 63, math.MaxUint64} {
			must(t, "a word of what is free", withWord(at, w), 2)
		}
	}
	must(t, "a free page of an object", withSpan(2, api.Span{}), 2)
	must(t, "a free block of an object", withSpan(0, api.Span{State: api.SpanClean, Class: 0, Free: 0xfffc}), 2)
	must(t, "a free block of an object without fields", withSpan(7, api.Span{State: api.SpanDirty, Class: 3, Free: 3}), 2)
}

// TestObjectWhereUsed is of P9.1: the rule 2 of blocks that aren't free: each one has an object, of its span's class.
func TestObjectWhereUsed(t *testing.T) {
	for name, h := range map[string]api.Heap{
		"no header":                             withWord(0, 0),
		"a value":                               withWord(2, 3),
		"not Used":                              withWord(64, 211-128),
		"not Used, dirty":                       withWord(224, 240-128),
		"a bit too many":                        withWord(64, 211+256),
		"a far bit too many":                    withWord(64, 211+1<<63),
		"a class less":                          withWord(92, 129),
		"a class less, no field":                withWord(224, 224),
		"a class more, its fields in the page":  withWord(64, 227),
		"a class more, its last field the last": withWord(92, 163),
		"a class more, its fields in the block": withWord(0, 209),
		"class 3 at a block of class 2":         withWord(120, 176),
		"more fields than there is room for":    withWord(0, 194),
		"8 fields of class 2":                   withWord(96, 232),
		"used, but 0":                           withSpan(6, api.Span{State: api.SpanClean, Class: 1, Free: 0x7f}),
		"used, but 0, dirty":                    withSpan(5, api.Span{State: api.SpanDirty, Class: 0, Free: 0xfffc}),
		"opened full":                           withSpan(1, api.Span{State: api.SpanDirty, Class: 3}),
		"smaller blocks":                        withSpan(4, api.Span{State: api.SpanClean, Class: 2, Free: 0}),
		"smaller blocks, the headers free":      withSpan(7, api.Span{State: api.SpanDirty, Class: 2, Free: 0xe}),
		"greater blocks":                        withSpan(3, api.Span{State: api.SpanDirty, Class: 3}),
	} {
		must(t, name, h, 2)
	}
}

// TestZeroBehindFields is of P9.1: the rule 3, of objects of either colour, in pages of either kind.
func TestZeroBehindFields(t *testing.T) {
	for _, at := range []int{3, 94, 95, 107, 108, 111, 121, 127, 147, 148, 159, 225, 226, 239} {
		for _, w := range []uint64{1, 2, refTo(0), 128, 193, 1 << 32, 1 << 63, math.MaxUint64} {
			must(t, "a word behind the fields", withWord(at, w), 3)
		}
	}
	for name, h := range map[string]api.Heap{
		"no field any more":       withWord(0, 192),
		"a field less":            withWord(64, 210),
		"a field less, dirty":     withWord(96, 230),
		"a field less, white":     withWord(104, 161),
		"14 fields":               withWord(128, 254),
		"no field, of the last":   withWord(144, 176),
		"no field of a far value": withWord(160, 128),
	} {
		must(t, name, h, 3)
	}
}

// nowhere are addresses where whole has no object: free blocks, a free page, fields, words behind them, and those beyond it.
var nowhere = []int{1, 3, 4, 6, 31, 32, 48, 65, 68, 88, 93, 97, 100, 112, 113, 127, 136, 143, 159, 162, 190, 192, 223, 240, 255, 256, 257, 288, 512, 1 << 32, 1<<32 + 64, 1 << 62, math.MaxInt - 1}

// TestRefs is of P9.1: the rule 4: whoever is black, or in a clean page, refers to objects; others to whatever they will.
func TestRefs(t *testing.T) {
	for _, to := range nowhere {
		for _, at := range []int{1, 97, 103, 128 + 1, 143} {
			must(t, "a black one", withWord(at, refTo(to)), 4)
		}
		for _, at := range []int{31, 93, 145, 146} {
			must(t, "a white one in a clean page", withWord(at, refTo(to)), 4)
		}
		for _, at := range []int{105, 106, 161} {
			must(t, "a white one in a dirty page", withWord(at, refTo(to)), 0)
		}
	}
	for name, h := range map[string]api.Heap{
		"the other sense":            turned(func(h *api.Heap) { h.Sense = false }),
		"a white one made black":     withWord(104, 226),
		"a far one made black":       withWord(160, 193),
		"a dirty page, clean":        withSpan(3, api.Span{State: api.SpanClean, Class: 2, Free: 4}),
		"a dirty page, clean, again": withSpan(5, api.Span{State: api.SpanClean, Class: 0, Free: 0xfffe}),
		"a freed one":                turned(func(h *api.Heap) { h.Words[224], h.Spans[7].Free = 0, 3 }),
	} {
		must(t, name, h, 4)
	}
}

// TestSense is of P9.1: which colour is black hangs on the heap's sense, in the rule 4 too.
func TestSense(t *testing.T) {
	for _, x := range []struct {
		sense bool
		head  uint64
		rule  int
	}{{true, 193, 4}, {true, 129, 0}, {false, 193, 0}, {false, 129, 4}} {
		h := testheap.Blank(api.Span{State: api.SpanDirty, Class: 0, Free: 0xfffe})
		testheap.Write(h, 0, x.head, refTo(2))
		h.Sense = x.sense
		must(t, "dirty", h, x.rule)
		h.Spans[0].State = api.SpanClean
		must(t, "clean", h, 4)
	}
}

// TestLeastRule is of P9.1: of several rules that are broken the least is told, wherever in the heap.
func TestLeastRule(t *testing.T) {
	breaks := []func(h *api.Heap){
		func(h *api.Heap) { h.Spans[7].Free = 6 },
		func(h *api.Heap) { h.Words[255] = 1 },
		func(h *api.Heap) { h.Words[239] = 1 },
		func(h *api.Heap) { h.Words[146] = refTo(255) },
	}
	others := []func(h *api.Heap){
		func(h *api.Heap) { h.Spans[1].Class = 1 },
		func(h *api.Heap) { h.Words[4] = 1 },
		func(h *api.Heap) { h.Words[3] = 1 },
		func(h *api.Heap) { h.Words[1] = refTo(1) },
	}
	for set := 1; set < 256; set++ {
		h, least := whole(), 0
		for i := range 4 {
			if set>>i&1 == 1 {
				breaks[i](&h)
			}
			if set>>(4+i)&1 == 1 {
				others[i](&h)
			}
			if least == 0 && set>>i&0x11 != 0 {
				least = i + 1
			}
		}
		must(t, "several", h, least)
	}
}

// isRight tells whether a span is right (chapter 6).
func isRight(s api.Span) bool {
	if s.State != api.SpanClean && s.State != api.SpanDirty {
		return s.State == api.SpanFree && s.Class == 0 && s.Free == 0
	}
	return s.Class >= 0 && s.Class < 4 && uint64(s.Free) < 1<<blocksOf[s.Class]
}

// brokenBy answers, by the chapter's words, the rule that is broken by the word at an address of a heap that has its form;
// 0, if none is.
func brokenBy(h api.Heap, at int) int {
	w, s := h.Words[at], h.Spans[at/32]
	size := testheap.WordsOf(s.Class)
	if s.State == api.SpanFree || s.Free>>(at%32/size)&1 == 1 {
		if w != 0 {
			return 2
		}
		return 0
	}
	x := testheap.HeaderAt(h, at-at%size)
	switch {
	case !x.Used || x.Class != s.Class:
		return 2
	case at%size > x.Count && w != 0:
		return 3
	case at%size == 0 || at%size > x.Count || w == 0 || w%2 == 1:
		return 0
	case s.State == api.SpanDirty && x.Colour != h.Sense || testheap.HeaderAt(h, int(w/2-1)).Used:
		return 0
	}
	return 4
}

// broken answers, by the chapter's words, the least rule that a heap breaks; 0, if it breaks none.
func broken(h api.Heap) int {
	if len(h.Spans) < 1 || len(h.Spans) > 16 || len(h.Words) != 32*len(h.Spans) {
		return 1
	}
	for _, s := range h.Spans {
		if !isRight(s) {
			return 1
		}
	}
	least := 0
	for at := range h.Words {
		if n := brokenBy(h, at); n != 0 && (least == 0 || n < least) {
			least = n
		}
	}
	return least
}

// agree fails, if Check or Ok tell anything else of a heap than the chapter's words do, or if words of a sound one are
// neither one object's nor 0; it answers the rule.
func agree(t *testing.T, h api.Heap) int {
	t.Helper()
	want := broken(h)
	if n, ok := sound.Check(h), sound.Ok(h); n != want || ok != (want == 0) {
		t.Fatalf("Check: %d, not %d; Ok: %t; of %+v", n, want, ok, h)
	}
	if want == 0 {
		onlyObjects(t, h)
	}
	return want
}

// onlyObjects fails, if a word of a heap is two objects', or none's and not 0.
func onlyObjects(t *testing.T, h api.Heap) {
	t.Helper()
	owners := make([]int, len(h.Words))
	for _, at := range object.List(h) {
		x, _ := object.Get(h, at)
		for i := range x.Count + 1 {
			owners[at+i]++
		}
	}
	for at, n := range owners {
		if n > 1 || n == 0 && h.Words[at] != 0 {
			t.Fatalf("the word %d at %d is of %d objects", h.Words[at], at, n)
		}
	}
}

// TestEachWord is of P9.1 and P9.2: whatever word stands at whatever address, in either sense.
func TestEachWord(t *testing.T) {
	words := []uint64{refTo(255), refTo(256), refTo(1 << 32), 1 << 16, 1<<16 + 193, 1<<32 + 145, 1<<63 + 2, 1<<63 + 193, math.MaxUint64 - 1, math.MaxUint64}
	for w := range uint64(300) {
		words = append(words, w)
	}
	told := [5]int{}
	for _, h := range []api.Heap{whole(), turned(func(h *api.Heap) { h.Sense, h.Words[105] = false, 0 })} {
		for at, was := range h.Words {
			for _, h.Words[at] = range words {
				told[agree(t, h)]++
			}
			h.Words[at] = was
		}
	}
	if told[0] == 0 || told[2] == 0 || told[3] == 0 || told[4] == 0 {
		t.Errorf("not all rules are broken: %v", told)
	}
}

// TestEachSpan is of P9.1 and P9.2: whatever span a page has, in either sense.
func TestEachSpan(t *testing.T) {
	told := [5]int{}
	for _, h := range []api.Heap{whole(), turned(func(h *api.Heap) { h.Sense = false })} {
		for page, was := range h.Spans {
			masks := []uint32{0, 1, 2, 3, 6, 0xe, 0xf, 0x7f, 0xff, 0x100, 0x7ffe, 0xfffe, 0xffff, 1 << 16, 1 << 31, math.MaxUint32}
			for i := range 32 {
				masks = append(masks, was.Free^1<<i)
			}
			for state := -1; state <= 3; state++ {
				for class := -1; class <= 4; class++ {
					for _, free := range append(masks, was.Free) {
						h.Spans[page] = api.Span{State: state, Class: class, Free: free}
						told[agree(t, h)]++
					}
				}
			}
			h.Spans[page] = was
		}
	}
	if told[0] == 0 || told[1] == 0 || told[2] == 0 || told[4] == 0 {
		t.Errorf("not all rules are broken: %v", told)
	}
}

// step does one thing, told by numbers, with a heap that has its form.
func step(h api.Heap, what, page, b, c int) api.Heap {
	at := 32*page + b
	if l := object.List(h); what&8 != 0 && len(l) > 0 {
		at = l[(32*page+b)%len(l)]
	}
	switch what % 8 {
	case 0, 1:
		if h.Spans[page].State == api.SpanFree {
			h, _ = heap.Open(h, page, c%4)
		}
		h, _, _ = heap.Lay(h, page, b%16)
	case 2, 3:
		to := 32 * b % len(h.Words)
		if l := object.List(h); len(l) > 0 {
			to = l[(b+c)%len(l)]
		}
		h, _ = object.Set(h, at, c%4, api.Value{Kind: api.Ref, N: to})
	case 4:
		h, _ = object.Paint(h, at)
	case 5:
		h, _ = heap.Free(h, at)
	case 6:
		// Fresh memory first, as a heap that was handed in isn't written into.
		h = testheap.Kept(h)
		h.Sense = !h.Sense
	default:
		h = testheap.Kept(h)
		if s := &h.Spans[page]; s.State != api.SpanFree {
			s.State = api.SpanClean + api.SpanDirty - s.State
		}
	}
	return h
}

// TestWalk is of P9.1 and P9.2: through many turns; some leave what was freed referred to, and then a word of it all is
// another one.
func TestWalk(t *testing.T) {
	told, spoilt := [5]int{}, [5]int{}
	for _, pages := range []int{1, 2, 5, 16} {
		next := testheap.Numbers(pages)
		for range 40 {
			h, _ := heap.New(pages)
			for range 40 {
				h = step(h, next(16), next(pages), next(32), next(16))
				told[agree(t, h)]++
				other := testheap.Kept(h)
				other.Words[next(len(h.Words))] = uint64(next(260))
				spoilt[agree(t, other)]++
			}
		}
	}
	if told[1]+told[2]+told[3] != 0 {
		t.Errorf("heaps' own calls break a rule: %v", told)
	}
	if told[0] == 0 || told[4] == 0 || spoilt[0] == 0 || spoilt[2] == 0 || spoilt[3] == 0 || spoilt[4] == 0 {
		t.Errorf("not all rules are broken: %v, %v", told, spoilt)
	}
}

// TestSoundWords is of P9.2: by hand: of a sound heap's words just these are objects' words; with any other one that isn't
// 0 it isn't sound.
func TestSoundWords(t *testing.T) {
	h := whole()
	objects := make([]bool, len(h.Words))
	for _, x := range []struct{ at, words int }{
		{0, 2}, {2, 1}, {30, 2}, {64, 4}, {92, 2}, {96, 8}, {104, 3}, {120, 1}, {128, 16}, {144, 3}, {160, 2}, {224, 1},
	} {
		for i := range x.words {
			objects[x.at+i] = true
		}
	}
	for at, is := range objects {
		for _, w := range []uint64{1, refTo(0), 193, 1 << 63} {
			if !is && (h.Words[at] != 0 || sound.Ok(withWord(at, w))) {
				t.Errorf("sound, with the word %d at %d, which is no object's", w, at)
			}
		}
	}
	onlyObjects(t, h)
}

// TestHandedInStays is of P9.3: whichever rule a heap breaks, it stays, the room behind its lists included.
func TestHandedInStays(t *testing.T) {
	heaps := formless()
	heaps["whole"] = whole()
	heaps["rule 2"] = withWord(255, 1)
	heaps["rule 2, no header"] = withWord(224, 0)
	heaps["rule 3"] = withWord(239, 1)
	heaps["rule 4"] = withWord(146, refTo(3))
	heaps["rule 4, of white ones"] = turned(func(h *api.Heap) { h.Sense = false })
	for name, h := range heaps {
		was := testheap.Kept(h)
		for range 2 {
			sound.Check(h)
			sound.Ok(h)
		}
		if !testheap.Untouched(h, was) {
			t.Errorf("%s: %+v, that was %+v", name, h, was)
		}
	}
}

// TestNothingIsKept is of P9.3: what is done with a heap behind a call is seen by the next one, and the other way round.
func TestNothingIsKept(t *testing.T) {
	h := whole()
	for range 3 {
		must(t, "whole", h, 0)
		h.Words[3] = 1
		must(t, "with a word behind the fields", h, 3)
		h.Words[3], h.Spans[1].State = 0, api.SpanClean
		must(t, "with a page of blocks without objects", h, 2)
		h.Spans[1].State = api.SpanFree
	}
}

// FuzzCheck is of P9.1 to P9.3: of whatever heap.
func FuzzCheck(f *testing.F) {
	f.Add([]byte{1, 0, 252, 255, 129, 4, 128}, false, 1, 0)
	f.Add([]byte{2, 1, 254, 0, 147, 0, 11, 40}, true, 2, 0)
	f.Add([]byte{1, 3, 2, 0, 255, 1, 2, 3, 4, 5, 6, 7, 8, 9, 10, 11, 12, 13, 14, 15}, false, 1, 40)
	f.Add([]byte{2, 2, 0, 0, 162}, false, 17, -1)
	f.Fuzz(func(t *testing.T, b []byte, sense bool, pages, more int) {
		if pages < 0 || pages > 40 || len(b) < 4 {
			return
		}
		spans := make([]api.Span, pages)
		for i := range spans {
			if i%3 != 1 {
				spans[i] = api.Span{State: int(b[0]) - i/3%2, Class: int(b[1]), Free: uint32(b[2]) + uint32(b[3])<<8}
			}
		}
		h := testheap.Blank(spans...)
		h.Sense = sense
		h.Words = h.Words[:max(0, min(len(h.Words)+more%64, cap(h.Words)))]
		for i, w := range b[4:] {
			if i < len(h.Words) {
				h.Words[i] = uint64(w)
			}
		}
		was := testheap.Kept(h)
		if agree(t, h); !testheap.Untouched(h, was) {
			t.Fatalf("%+v, that was %+v", h, was)
		}
	})
}
