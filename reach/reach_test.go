package reach_test

import (
	"math"
	"slices"
	"testing"

	"flotsam/api"
	"flotsam/heap"
	"flotsam/object"
	"flotsam/reach"
	"flotsam/testheap"
)

// filler is behind the length of values that are handed in: one that would lead on.
var filler = ref(0)

func ref(n int) api.Value { return api.Value{Kind: api.Ref, N: n} }

func num(n int) api.Value { return api.Value{Kind: api.Int, N: n} }

// values answers those, with room behind them.
func values(vs ...api.Value) []api.Value { return testheap.WithRoom(vs, filler) }

// refsTo answers Refs to those addresses, with room behind them.
var refsTo = testheap.RefsTo

// wordOf answers the word of a Ref to an address.
var wordOf = testheap.RefTo

// span answers a span in use of a class, in which nothing is free.
func span(class int) api.Span { return api.Span{State: api.SpanClean, Class: class} }

// mixed answers a heap, written out by hand, of objects that lie apart and of such as don't, of headers that are none,
// and of pages of all kinds; its sense is true.
func mixed() api.Heap {
	h := testheap.Blank(
		api.Span{State: api.SpanClean, Class: 0, Free: 0xfff8},
		api.Span{},
		api.Span{State: api.SpanClean, Class: 1, Free: 0xf0},
		api.Span{State: api.SpanDirty, Class: 2},
		api.Span{State: api.SpanClean, Class: 3, Free: 2},
	)
	h.Sense = true
	testheap.Write(h, 0, 129, wordOf(64))                                    // to 64
	testheap.Write(h, 2, 193, wordOf(0))                                     // black; to 0
	testheap.Write(h, 4, 128, wordOf(2))                                     // no field, though it looks like one
	testheap.Write(h, 6, 65, wordOf(0))                                      // not Used
	testheap.Write(h, 8, 129, wordOf(8))                                     // in a free block; to itself
	testheap.Write(h, 10, 209, wordOf(12))                                   // black, of class 1; to no object
	testheap.Write(h, 24, 166, 0, 131, wordOf(8), 131, 0, 0, wordOf(0))      // of class 2, 6 fields; to 8, over the blocks behind it
	testheap.Write(h, 32, 129, wordOf(0))                                    // in a free page
	testheap.Write(h, 64, 147, 0, 11, wordOf(68))                            // to 68
	testheap.Write(h, 68, 211, wordOf(64), 129, wordOf(32))                  // black; to 64, and into the free page
	testheap.Write(h, 72, 147, wordOf(69), wordOf(72), wordOf(1<<40))        // to itself
	testheap.Write(h, 76, 145, wordOf(0), wordOf(64), wordOf(68))            // one field alone; to 0
	testheap.Write(h, 80, 191, 2, 0, 0, 187, 0, 0, wordOf(96), 0, 0, 0, 0)   // of class 3, to the page's last word; to 0, and 96; at 84 such a one, to 96
	testheap.Write(h, 92, 188, wordOf(2))                                    // too many fields for the page; what is behind it is a field of 80, and of 84, to 2
	testheap.Write(h, 96, 167, wordOf(104), 0, wordOf(104), 1, 3, 5, 0)      // to 104, twice
	testheap.Write(h, 104, 231, 0, 0, 0, 0, 0, 0, wordOf(120))               // black; to 120, by its last field
	testheap.Write(h, 112, 232, wordOf(0))                                   // too many fields for its class
	testheap.Write(h, 120, 224)                                              // black, no field
	testheap.Write(h, 128, 189, 0, 0, 1<<63+2, wordOf(144), 1<<63+3, 129, 1) // of class 3; to 144
	testheap.Write(h, 144, 255)                                              // black, to the heap's last word
	testheap.Write(h, 159, wordOf(128))                                      // the last of these: to 128
	return h
}

// reachedFrom is what each object of mixed leads to, itself too, by hand.
var reachedFrom = map[int][]int{
	0: {0, 64, 68}, 2: {0, 2, 64, 68}, 4: {4}, 8: {8}, 10: {10}, 24: {8, 24}, 64: {64, 68}, 68: {64, 68}, 72: {72}, 76: {0, 64, 68, 76},
	80: {0, 2, 64, 68, 80, 96, 104, 120}, 84: {0, 2, 64, 68, 84, 96, 104, 120}, 96: {96, 104, 120}, 104: {104, 120}, 120: {120}, 128: {128, 144}, 144: {128, 144},
}

// noObjects are addresses of mixed at which no object is.
func noObjects() []int {
	return append([]int{1, 3, 5, 6, 7, 12, 14, 25, 26, 28, 30, 31, 32, 34, 63, 65, 69, 70, 88, 97, 100, 112, 136, 145, 152, 159, 160, 161, 192}, testheap.Far()...)
}

// mustReach fails, if From answers anything else than what is reached.
func mustReach(t *testing.T, h api.Heap, vs []api.Value) []int {
	t.Helper()
	want := testheap.Reached(h, vs)
	got := reach.From(h, vs)
	if !slices.Equal(got, want) {
		t.Fatalf("From(%+v, %v): %v; not %v", h, vs, got, want)
	}
	return got
}

// mustCount fails, if Words answers anything else than the words of the objects at those addresses, each once.
func mustCount(t *testing.T, h api.Heap, l []int) int {
	t.Helper()
	once := slices.Clone(l)
	slices.Sort(once)
	want := 0
	for _, at := range slices.Compact(once) {
		if x := testheap.HeaderAt(h, at); x.Used {
			want += testheap.WordsOf(x.Class)
		}
	}
	got := reach.Words(h, l)
	if got != want {
		t.Fatalf("Words(%+v, %v): %d; not %d", h, l, got, want)
	}
	return got
}

// mustTellBlack fails, if Black answers anything else than the objects of the sense's colour.
func mustTellBlack(t *testing.T, h api.Heap) {
	t.Helper()
	var want []int
	for at := range h.Words {
		if x := testheap.HeaderAt(h, at); x.Used && x.Colour == h.Sense {
			want = append(want, at)
		}
	}
	if got := reach.Black(h); !slices.Equal(got, want) {
		t.Fatalf("Black(%+v): %v; not %v", h, got, want)
	}
}

// linked answers a heap of so many pages of a class, full of objects, each of which has one field that leads to the object
// that is so many behind it, round the end.
func linked(pages, class, by int) (api.Heap, []int) {
	h := testheap.Blank(slices.Repeat([]api.Span{span(class)}, pages)...)
	words := testheap.WordsOf(class)
	var all []int
	for at := 0; at < len(h.Words); at += words {
		all = append(all, at)
		testheap.Write(h, at, uint64(128+16*class+1), wordOf((at+by*words)%len(h.Words)))
	}
	return h, all
}

// graph answers a heap of so many objects of as many fields, at 0, 8, 16 .., whose field j leads to the object j just if
// edges has the bit.
func graph(objects int, edges uint32) api.Heap {
	h := testheap.Blank(span(2), span(2))
	for i := range objects {
		testheap.Write(h, 8*i, uint64(160+objects))
		for j := range objects {
			if edges>>(i*objects+j)&1 == 1 {
				h.Words[8*i+1+j] = wordOf(8 * j)
			}
		}
	}
	return h
}

// addressesOf answers where the objects of a graph are that a mask has.
func addressesOf(mask int) []int {
	var l []int
	for i := range 8 {
		if mask>>i&1 == 1 {
			l = append(l, 8*i)
		}
	}
	return l
}

// isClosed tells whether the objects of the mask are closed: each one's edges lead to others of it.
func isClosed(objects int, edges uint32, mask int) bool {
	for i := range objects {
		to := int(edges>>(i*objects)) & (1<<objects - 1)
		if mask>>i&1 == 1 && to&^mask != 0 {
			return false
		}
	}
	return true
}

// leastClosed answers the objects that are in each closed set that has all of the mask in it.
func leastClosed(objects int, edges uint32, from int) int {
	least := 1<<objects - 1
	for mask := range 1 << objects {
		if from&^mask == 0 && isClosed(objects, edges, mask) {
			least &= mask
		}
	}
	return least
}

// TestExample is of P15.1: the chapter's example.
func TestExample(t *testing.T) {
	h, _ := heap.New(1)
	h, _ = heap.Open(h, 0, 0)
	var at [3]int
	for i := range at {
		h, at[i], _ = heap.Lay(h, 0, 1)
	}
	for i, to := range []int{1, 0, 0} {
		h, _ = object.Set(h, at[i], 0, ref(at[to]))
	}
	if l := reach.From(h, []api.Value{ref(at[0])}); !slices.Equal(l, []int{at[0], at[1]}) {
		t.Errorf("From a: %v", l)
	}
	if l := reach.From(h, []api.Value{ref(at[2])}); !slices.Equal(l, at[:]) {
		t.Errorf("From c: %v", l)
	}
}

// TestFromOne is of P15.1: from each object of a heap, worked out by hand, whatever the sense is.
func TestFromOne(t *testing.T) {
	for _, sense := range []bool{false, true} {
		h := mixed()
		h.Sense = sense
		for at, l := range reachedFrom {
			if got := reach.From(h, refsTo(at)); !slices.Equal(got, l) {
				t.Errorf("From %d: %v, not %v", at, got, l)
			}
			mustReach(t, h, refsTo(at))
		}
	}
}

// TestFromSome is of P15.1: values worked out by hand: twice the same, such as lead to another, numbers of all kinds.
func TestFromSome(t *testing.T) {
	h := mixed()
	for _, x := range []struct {
		vs   []api.Value
		want []int
	}{
		{nil, nil},
		{values(), nil},
		{values(api.Value{}, num(0), num(64), api.Value{Kind: 3, N: 0}, api.Value{Kind: -2, N: 2}), nil},
		{refsTo(120, 120, 4, 120), []int{4, 120}},
		{refsTo(144, 68), []int{64, 68, 128, 144}},
		{refsTo(128, 144, 0, 2), []int{0, 2, 64, 68, 128, 144}},
		{refsTo(2, 0), []int{0, 2, 64, 68}},
		{refsTo(12, 4, 13, -1, 104, 512), []int{4, 104, 120}},
		{values(num(2), ref(72), api.Value{}, num(72), ref(10), api.Value{Kind: 258, N: 2}), []int{10, 72}},
		{values(api.Value{N: 2}, ref(8)), []int{8}},
	} {
		if got := reach.From(h, x.vs); !slices.Equal(got, x.want) {
			t.Errorf("From %v: %v, not %v", x.vs, got, x.want)
		}
	}
}

// TestFromNoObject is of P15.1: a Ref that leads to no object reaches nothing, be it alone or beside another.
func TestFromNoObject(t *testing.T) {
	h := mixed()
	for _, at := range noObjects() {
		if got := reach.From(h, refsTo(at)); len(got) != 0 {
			t.Errorf("From %d: %v", at, got)
		}
		if got := reach.From(h, refsTo(at, 10, at)); !slices.Equal(got, []int{10}) {
			t.Errorf("From %d, 10 and %d: %v", at, at, got)
		}
	}
}

// TestFromFieldsOfNoObject is of P15.1: a field that leads to no object reaches nothing, and doesn't end the others.
func TestFromFieldsOfNoObject(t *testing.T) {
	for _, at := range noObjects() {
		if at < 0 || at == math.MaxInt {
			continue
		}
		h := mixed()
		testheap.Write(h, 64, 147, wordOf(at), wordOf(120), wordOf(at))
		if got := reach.From(h, refsTo(64)); !slices.Equal(got, []int{64, 120}) {
			t.Errorf("From one with a field to %d: %v", at, got)
		}
	}
}

// TestFromOtherKinds is of P15.1: of all kinds but one, no value leads anywhere, nor does a field that is a number.
func TestFromOtherKinds(t *testing.T) {
	h := mixed()
	for _, kind := range append([]int{0, 1, 3, 4, 5, 6, 7, 256, 258, 1<<16 + 2, 1<<32 + 2}, testheap.Far()...) {
		for at := range h.Words {
			if got := reach.From(h, values(api.Value{Kind: kind, N: at})); len(got) != 0 {
				t.Fatalf("From the kind %d, %d: %v", kind, at, got)
			}
		}
	}
	for at := range h.Words {
		testheap.Write(h, 72, 147, uint64(2*at+1), 0, uint64(2*at+1))
		if got := reach.From(h, refsTo(72)); !slices.Equal(got, []int{72}) {
			t.Fatalf("From one with the numbers %d: %v", at, got)
		}
	}
}

// TestFromChains is of P15.1: long ones: each object leads to the next, or to one further on, through all pages, and round.
func TestFromChains(t *testing.T) {
	for _, pages := range []int{1, 2, 5, 16} {
		for class := range api.Classes {
			h, all := linked(pages, class, 1)
			last := len(all) - 1
			for _, first := range []int{0, 1, last / 2, last} {
				if got := reach.From(h, refsTo(all[first])); !slices.Equal(got, all) {
					t.Errorf("%d pages of class %d, from %d: %v", pages, class, first, got)
				}
			}
			// The ring is cut open: the last one leads nowhere.
			h.Words[all[last]+1] = 0
			for first := range all {
				if got := reach.From(h, refsTo(all[first])); !slices.Equal(got, all[first:]) {
					t.Fatalf("%d pages of class %d, from %d on: %v", pages, class, first, got)
				}
			}
			for _, by := range []int{2, 3, 5, last} {
				h, _ := linked(pages, class, by)
				mustReach(t, h, refsTo(all[last]))
				mustReach(t, h, refsTo(all[0], all[last/2]))
			}
		}
	}
}

// TestFromLongLists is of P15.1: as many values as may come, all of the same few objects.
func TestFromLongLists(t *testing.T) {
	h, all := linked(16, 0, 2)
	vs := slices.Repeat(refsTo(0, 4, 8, -1, 12, 3, 1000), 5000)
	var even []int
	for i := 0; i < len(all); i += 2 {
		even = append(even, all[i])
	}
	if got := reach.From(h, vs); !slices.Equal(got, even) {
		t.Errorf("From: %v", got)
	}
	mustReach(t, h, append(vs, ref(2)))
}

// TestFromAllToAll is of P15.1: where everybody leads to everybody, each comes once.
func TestFromAllToAll(t *testing.T) {
	h := testheap.Blank(slices.Repeat([]api.Span{span(3)}, 8)...)
	var all []int
	for at := 0; at < len(h.Words); at += 16 {
		all = append(all, at)
		h.Words[at] = 128 + 16*3 + 15
		for i := range 15 {
			h.Words[at+1+i] = wordOf((at + 16 + 16*i) % len(h.Words))
		}
	}
	for _, at := range all {
		if got := reach.From(h, refsTo(at)); !slices.Equal(got, all) {
			t.Errorf("From %d: %v", at, got)
		}
	}
}

// TestWords is of P15.2: worked out by hand: by the class that the header tells, which may be another than the span's; each
// once; nothing of what is no object.
func TestWords(t *testing.T) {
	h := mixed()
	for _, x := range []struct {
		l    []int
		want int
	}{
		{nil, 0}, {[]int{}, 0}, {[]int{0}, 2}, {[]int{4}, 2}, {[]int{8}, 2}, {[]int{10}, 4}, {[]int{24}, 8}, {[]int{64}, 4}, {[]int{76}, 4},
		{[]int{80}, 16}, {[]int{84}, 16}, {[]int{120}, 8}, {[]int{144}, 16}, {[]int{0, 2}, 4}, {[]int{2, 0, 2, 0, 2}, 4}, {[]int{144, 120, 64, 0}, 30},
		{[]int{80, 84}, 32}, {[]int{6, 12, 32, -1, 160, 65, 112}, 0}, {[]int{6, 10, 6, 64, -8, 10, 1 << 40}, 8},
		{[]int{0, 2, 4, 8, 10, 24, 64, 68, 72, 76, 80, 84, 96, 104, 120, 128, 144}, 4*2 + 4 + 8 + 4*4 + 2*16 + 3*8 + 2*16},
	} {
		if got := reach.Words(h, testheap.WithRoom(x.l, 128)); got != x.want {
			t.Errorf("Words %v: %d, not %d", x.l, got, x.want)
		}
		h.Sense = !h.Sense
	}
}

// TestWordsOfNoObject is of P15.2: nothing counts, be it alone or beside another.
func TestWordsOfNoObject(t *testing.T) {
	h := mixed()
	for _, at := range noObjects() {
		if got := reach.Words(h, []int{at}); got != 0 {
			t.Errorf("Words of %d: %d", at, got)
		}
		if got := reach.Words(h, []int{at, 10, at, 96, at}); got != 12 {
			t.Errorf("Words of %d, 10, %d, 96 and %d: %d", at, at, at, got)
		}
	}
}

// TestWordsOfEachHeader is of P15.2: whatever header stands in a block of whatever class.
func TestWordsOfEachHeader(t *testing.T) {
	for class := range api.Classes {
		for at := 0; at < 64; at += testheap.WordsOf(class) {
			for w := range uint64(270) {
				h := testheap.Blank(span(class), span(class))
				h.Words[at] = w
				mustCount(t, h, []int{at, 0, at})
			}
		}
	}
}

// TestWordsOfFullHeaps is of P15.2: all objects have all words, however often they are named.
func TestWordsOfFullHeaps(t *testing.T) {
	for _, pages := range []int{1, 3, 16} {
		for class := range api.Classes {
			h, all := linked(pages, class, 1)
			for times := 1; times <= 3; times++ {
				if got := reach.Words(h, slices.Repeat(all, times)); got != 32*pages {
					t.Errorf("%d pages of class %d, each object %d times: %d", pages, class, times, got)
				}
			}
		}
	}
}

// TestBlack is of P15.1: worked out by hand, in both senses, and of a heap without objects.
func TestBlack(t *testing.T) {
	h := mixed()
	if got := reach.Black(h); !slices.Equal(got, []int{2, 10, 68, 104, 120, 144}) {
		t.Errorf("Black: %v", got)
	}
	h.Sense = false
	if got := reach.Black(h); !slices.Equal(got, []int{0, 4, 8, 24, 64, 72, 76, 80, 84, 96, 128}) {
		t.Errorf("Black, the other sense: %v", got)
	}
	for _, pages := range []int{1, 2, 16} {
		for _, s := range []api.Span{{}, span(0), span(3)} {
			h := testheap.Blank(slices.Repeat([]api.Span{s}, pages)...)
			if got := reach.Black(h); len(got) != 0 {
				t.Errorf("Black of %d pages %+v without objects: %v", pages, s, got)
			}
		}
	}
}

// TestBlackOfOne is of P15.1: one object is painted after another; just those that are come, whoever reaches them.
func TestBlackOfOne(t *testing.T) {
	for class := range api.Classes {
		h, all := linked(3, class, 1)
		h.Sense = true
		var want []int
		for i := range all {
			at := all[(i*5+3)%len(all)]
			h, _ = object.Paint(h, at)
			want = append(want, at)
			slices.Sort(want)
			want = slices.Compact(want)
			if got := reach.Black(h); !slices.Equal(got, want) {
				t.Fatalf("class %d: Black: %v, not %v", class, got, want)
			}
		}
	}
}

// TestLeastClosed is of P15.3: of all graphs of three objects, and of some of more, from each choice of them: it is closed,
// and in every closed set that has those in it.
func TestLeastClosed(t *testing.T) {
	number := testheap.Numbers(15)
	for objects := 1; objects <= 5; objects++ {
		graphs := 1 << min(objects*objects, 9)
		for g := range graphs {
			edges := uint32(g)
			if objects > 3 {
				edges = uint32(number(1<<13)&number(1<<13))<<13 | uint32(number(1<<13)&number(1<<13))
			}
			h := graph(objects, edges)
			for from := range 1 << objects {
				want := addressesOf(leastClosed(objects, edges, from))
				if got := reach.From(h, refsTo(addressesOf(from)...)); !slices.Equal(got, want) {
					t.Fatalf("%d objects, edges %b, from %b: %v, not %v", objects, edges, from, got, want)
				}
			}
		}
	}
}

// TestOnceMore is of P15.3: what is reached from what is reached is just that; from more, no less.
func TestOnceMore(t *testing.T) {
	for seed := range 200 {
		number := testheap.Numbers(seed)
		h := testheap.AnyHeap(number, 1+seed%16)
		vs := testheap.AnyValues(number, h)
		l := mustReach(t, h, vs)
		if again := reach.From(h, refsTo(l...)); !slices.Equal(again, l) {
			t.Fatalf("seed %d: from %v: %v", seed, l, again)
		}
		more := mustReach(t, h, append(slices.Clone(vs), testheap.AnyValues(number, h)...))
		for _, at := range l {
			if !slices.Contains(more, at) {
				t.Fatalf("seed %d: from more values: %v, without %d", seed, more, at)
			}
		}
	}
}

// TestAnyHeaps is of P15.1 and P15.2: whatever the heap is, and whatever is asked for.
func TestAnyHeaps(t *testing.T) {
	for seed := range 600 {
		number := testheap.Numbers(seed)
		h := testheap.AnyHeap(number, 1+seed%16)
		mustTellBlack(t, h)
		for range 6 {
			l := mustReach(t, h, testheap.AnyValues(number, h))
			mustCount(t, h, l)
			for range number(9) {
				l = append(l, number(len(h.Words)+20)-10)
			}
			mustCount(t, h, l)
		}
	}
}

// TestStays is of P15.4: no call changes the heap, the values or the addresses, nor the room behind them.
func TestStays(t *testing.T) {
	heaps := []api.Heap{mixed()}
	for seed := range 20 {
		heaps = append(heaps, testheap.AnyHeap(testheap.Numbers(seed), 1+seed%16))
	}
	for _, h := range heaps {
		was := testheap.Kept(h)
		for _, vs := range [][]api.Value{nil, values(), refsTo(128, 2, 80, 80, -1), values(num(3), ref(96), api.Value{})} {
			whole := slices.Clone(testheap.Whole(vs))
			l := testheap.WithRoom([]int{144, 2, 2, 80, -1, 65, 0}, 96)
			addresses := slices.Clone(testheap.Whole(l))
			reach.From(h, vs)
			reach.Words(h, l)
			reach.Black(h)
			if !testheap.Untouched(h, was) || !slices.Equal(testheap.Whole(vs), whole) || !slices.Equal(testheap.Whole(l), addresses) {
				t.Fatalf("%+v, that was %+v; %v, that was %v; %v, that was %v", h, was, testheap.Whole(vs), whole, testheap.Whole(l), addresses)
			}
		}
	}
}

// TestNewMemory is of P15.4: what is written into an answer, or behind it, is seen nowhere else.
func TestNewMemory(t *testing.T) {
	h := mixed()
	was := testheap.Kept(h)
	for name, call := range map[string]func() []int{
		"From":  func() []int { return reach.From(h, refsTo(2, 80, 144)) },
		"Black": func() []int { return reach.Black(h) },
	} {
		one, two := call(), call()
		want := slices.Clone(two)
		for i := range testheap.Whole(one) {
			testheap.Whole(one)[i] = 99
		}
		if len(want) < 3 || !testheap.Untouched(h, was) || !slices.Equal(two, want) || !slices.Equal(call(), want) {
			t.Errorf("%s: the answer shares memory", name)
		}
	}
}

// FuzzReach is of P15.1 to P15.3, of whatever words and values come: two bytes are a word, or an address.
func FuzzReach(f *testing.F) {
	f.Add([]byte{1, 2, 0}, []byte{0, 129, 0, 66, 0, 129, 0, 4}, []byte{0, 0, 0, 2}, true)
	f.Add([]byte{8, 5, 4, 7}, []byte{0, 191, 0, 2, 0, 66, 0, 129, 1, 2}, []byte{0, 0, 0, 32}, false)
	f.Add([]byte{}, []byte{}, []byte{1}, false)
	f.Fuzz(func(t *testing.T, pages, words, to []byte, sense bool) {
		h := testheap.OfBytes(pages, words)
		h.Sense = sense
		var l []int
		for p := range slices.Chunk(to, 2) {
			l = append(l, int(int8(p[0]))<<8+int(p[len(p)-1]))
		}
		mustReach(t, h, refsTo(l...))
		mustCount(t, h, l)
		mustTellBlack(t, h)
		mustCount(t, h, slices.Concat(reach.Black(h), reach.From(h, refsTo(l...)), l))
	})
}
