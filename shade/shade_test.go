package shade_test

import (
	"math"
	"slices"
	"testing"

	"flotsam/api"
	"flotsam/heap"
	"flotsam/object"
	"flotsam/shade"
	"flotsam/testheap"
)

func ref(n int) api.Value { return api.Value{Kind: api.Ref, N: n} }

func num(n int) api.Value { return api.Value{Kind: api.Int, N: n} }

// refsTo answers Refs to those addresses.
var refsTo = testheap.RefsTo

// mixed answers a heap of white and black objects, and of all that is none.
var mixed = testheap.Mixed

// whites are mixed's white objects, blacks its black ones: the other way round in the other sense.
var whites, blacks = testheap.MixedWhites(), testheap.MixedBlacks()

// noObjects are addresses of mixed at which no object is.
var noObjects = testheap.MixedNoObjects

// otherKinds are numbers that aren't Ref's, such as would be in fewer bits too.
func otherKinds() []int {
	return append([]int{0, 1, 3, 4, 5, 6, 7, 256, 257, 258, 1<<16 + 2, 1<<32 + 2}, testheap.Far()...)
}

// someRows are rows of each room that may be: empty, with room for one more, and full; and such as are nil, or empty lists.
func someRows() []api.Grey {
	rows := []api.Grey{{}, {Room: 1}, {Room: 16}, {Items: []int{}}, {Room: 5, Items: []int{}}}
	for room := range 17 {
		for n := range room + 1 {
			if n == 0 || n >= room-1 {
				rows = append(rows, testheap.Row(room, someItems(n)...))
			}
		}
	}
	return rows
}

// someItems are n of a row's items, also such as are no object's address.
func someItems(n int) []int {
	var l []int
	for i := range n {
		l = append(l, []int{96, 0, 7, 96, math.MaxInt, 2}[i%6])
	}
	return l
}

// state is what shading is handed, and what it answers.
type state struct {
	heap api.Heap
	row  api.Grey
	over bool
}

// kept answers a state as s is, of memory of its own, with the room behind its lists.
func kept(s state) state {
	return state{heap: testheap.Kept(s.heap), row: testheap.KeptRow(s.row), over: s.over}
}

// same tells whether two states are the same, their lists item by item.
func same(a, b state) bool {
	return a.over == b.over && testheap.Same(a.heap, b.heap) && testheap.SameRow(a.row, b.row)
}

// untouched tells whether s is as it was kept, the room behind its lists included.
func untouched(s, was state) bool {
	return s.over == was.over && testheap.Untouched(s.heap, was.heap) && testheap.UntouchedRow(s.row, was.row)
}

// scrawl writes over all of a state's lists, and the room behind them.
func scrawl(s state) {
	testheap.Scrawl(s.heap)
	testheap.ScrawlRow(s.row)
}

// shaded answers, by the chapter's words alone, what comes of values, one behind the other, and whether anything happens.
func shaded(s state, vs []api.Value) (state, bool) {
	n, happens := kept(s), false
	for _, v := range vs {
		did, over := testheap.Shade(&n.heap, &n.row, v)
		happens, n.over = happens || did, n.over || over
	}
	return n, happens
}

// one answers what Shade answers, all what All does.
func one(s state, v api.Value) state {
	h, g, over := shade.Shade(s.heap, s.row, v)
	return state{h, g, over}
}

func all(s state, vs []api.Value) state {
	h, g, over := shade.All(s.heap, s.row, vs)
	return state{h, g, over}
}

// mustShade fails, if Shade answers anything else than the chapter tells, or changes what it is handed.
func mustShade(t *testing.T, h api.Heap, g api.Grey, v api.Value) state {
	t.Helper()
	s := state{heap: h, row: g}
	was := kept(s)
	want, _ := shaded(s, []api.Value{v})
	got := one(s, v)
	if !same(got, want) {
		t.Fatalf("Shade(%+v, %+v, %v): %+v; not %+v", h, g, v, got, want)
	}
	if !untouched(s, was) {
		t.Fatalf("Shade(.., %v): %+v; that was %+v", v, s, was)
	}
	return got
}

// mustShadeAll fails, if All answers anything else than the chapter tells, or changes what it is handed.
func mustShadeAll(t *testing.T, h api.Heap, g api.Grey, vs []api.Value) state {
	t.Helper()
	s := state{heap: h, row: g}
	was, values := kept(s), slices.Clone(testheap.Whole(vs))
	want, _ := shaded(s, vs)
	got := all(s, vs)
	if !same(got, want) {
		t.Fatalf("All(%+v, %+v, %v): %+v; not %+v", h, g, vs, got, want)
	}
	if !untouched(s, was) || !slices.Equal(testheap.Whole(vs), values) {
		t.Fatalf("All(.., %v): %+v, that was %+v; %v, that was %v", vs, s, was, testheap.Whole(vs), values)
	}
	return got
}

// full answers a heap of so many pages of a class, all of whose blocks are white objects with a field, and where these are.
func full(pages, class int) (api.Heap, []int) {
	h := testheap.Blank(slices.Repeat([]api.Span{{State: api.SpanClean, Class: class}}, pages)...)
	h.Sense = true
	var addresses []int
	for at := 0; at < len(h.Words); at += testheap.WordsOf(class) {
		addresses = append(addresses, at)
		testheap.Write(h, at, uint64(128+16*class+1), testheap.RefTo((at*3+testheap.WordsOf(class))%len(h.Words)))
	}
	return h, addresses
}

// painted answers a heap as h is, but with other words for the headers at those addresses.
func painted(h api.Heap, addresses ...int) api.Heap {
	n := testheap.Kept(h)
	for _, at := range addresses {
		n.Words[at] ^= testheap.Colour
	}
	return n
}

// TestExample is of P16.1: the chapter's example.
func TestExample(t *testing.T) {
	h, _ := heap.New(1)
	h, _ = heap.Open(h, 0, 0)
	h, at, _ := heap.Lay(h, 0, 1)
	h.Sense = true
	n, g, over := shade.Shade(h, api.Grey{}, ref(at))
	if !object.Black(n, at) || len(g.Items) != 0 || g.Room != 0 || !over {
		t.Errorf("Shade: black %t, %+v, over %t", object.Black(n, at), g, over)
	}
}

// TestWhite is of P16.1: each white object, in both senses: painted, and at the row's end; or over, if there is no room.
func TestWhite(t *testing.T) {
	for _, sense := range []bool{true, false} {
		h := mixed()
		h.Sense = sense
		addresses := whites
		if !sense {
			addresses = blacks
		}
		for _, at := range addresses {
			for _, x := range []struct{ g, want api.Grey }{
				{testheap.Row(1), testheap.Row(1, at)},
				{testheap.Row(3, 64, 5), testheap.Row(3, 64, 5, at)},
				{testheap.Row(2, at), testheap.Row(2, at, at)},
				{testheap.Row(16), testheap.Row(16, at)},
			} {
				if s := one(state{heap: h, row: x.g}, ref(at)); !same(s, state{painted(h, at), x.want, false}) {
					t.Errorf("%d, into %+v: %+v", at, x.g, s)
				}
			}
			for _, g := range []api.Grey{{}, testheap.Row(0), testheap.Row(1, 7), testheap.Row(2, at, 0), testheap.Row(16, someItems(16)...)} {
				if s := one(state{heap: h, row: g}, ref(at)); !same(s, state{painted(h, at), g, true}) {
					t.Errorf("%d, into %+v, that is full: %+v", at, g, s)
				}
			}
		}
	}
}

// mustDoNothing fails, if shading that value does anything, whatever the row.
func mustDoNothing(t *testing.T, h api.Heap, v api.Value) {
	t.Helper()
	for _, g := range []api.Grey{{}, testheap.Row(1), testheap.Row(1, 9), testheap.Row(16, 4, 2)} {
		want := state{heap: testheap.Kept(h), row: testheap.KeptRow(g)}
		if s := one(state{heap: h, row: g}, v); !same(s, want) {
			t.Fatalf("Shade(.., %+v, %v): %+v", g, v, s)
		}
		if s := all(state{heap: h, row: g}, []api.Value{v, v}); !same(s, want) {
			t.Fatalf("All(.., %+v, %v, twice): %+v", g, v, s)
		}
	}
}

// TestBlack is of P16.1: of what is black nothing happens, be there room or not.
func TestBlack(t *testing.T) {
	h := mixed()
	for _, at := range blacks {
		mustDoNothing(t, h, ref(at))
	}
	h.Sense = false
	for _, at := range whites {
		mustDoNothing(t, h, ref(at))
	}
}

// TestNoObject is of P16.1: of a Ref to no object nothing happens.
func TestNoObject(t *testing.T) {
	h := mixed()
	for _, at := range noObjects() {
		mustDoNothing(t, h, ref(at))
		h.Sense = !h.Sense
	}
}

// TestOtherKinds is of P16.1: of values of other kinds nothing happens, whatever is at their N.
func TestOtherKinds(t *testing.T) {
	h := mixed()
	for _, kind := range otherKinds() {
		for _, at := range slices.Concat(whites, blacks, []int{-1, 1, 32, 160, math.MaxInt, math.MinInt}) {
			mustDoNothing(t, h, api.Value{Kind: kind, N: at})
		}
	}
}

// TestEachAddress is of P16.1: each address, and some beside, in both senses, with every row.
func TestEachAddress(t *testing.T) {
	h := mixed()
	for _, sense := range []bool{true, false} {
		h.Sense = sense
		for at := -34; at < len(h.Words)+34; at++ {
			for _, g := range someRows() {
				mustShade(t, h, g, ref(at))
			}
		}
	}
}

// TestEachHeader is of P16.1: whatever word stands where a block begins, in pages of each class and kind, in both senses.
func TestEachHeader(t *testing.T) {
	for class := range api.Classes {
		for _, s := range []api.Span{{State: api.SpanClean, Class: class}, {State: api.SpanDirty, Class: class, Free: 1}, {}} {
			for w := range uint64(400) {
				for _, at := range []int{0, 32 - testheap.WordsOf(class)} {
					h := testheap.Blank(s, s)
					h.Sense = w%3 == 0
					h.Words[at] = w
					mustShade(t, h, testheap.Row(1), ref(at))
					h.Sense = !h.Sense
					mustShade(t, h, testheap.Row(0), ref(at))
				}
			}
		}
	}
}

// TestAll is of P16.1: lists worked out by hand: in their order, each once, over if one was, be it the last one or not.
func TestAll(t *testing.T) {
	h := mixed()
	for i, x := range []struct {
		g      api.Grey
		vs     []api.Value
		items  []int
		turned []int
		over   bool
	}{
		{api.Grey{}, nil, nil, nil, false},
		{testheap.Row(2, 9), []api.Value{}, []int{9}, nil, false},
		{testheap.Row(1, 9), refsTo(), []int{9}, nil, false},
		{testheap.Row(3), refsTo(96, 0, 64), []int{96, 0, 64}, []int{0, 64, 96}, false},
		{testheap.Row(3, 5), refsTo(4, 4, 4, 0, 4), []int{5, 4, 0}, []int{0, 4}, false},
		{testheap.Row(2), refsTo(2, 68, 6, -1, 32), nil, nil, false},
		{testheap.Row(0), refsTo(2, 68, 6, -1, 32), nil, nil, false},
		{testheap.Row(1), refsTo(64, 0), []int{64}, []int{0, 64}, true},
		{testheap.Row(1), refsTo(64, 0, 2), []int{64}, []int{0, 64}, true},
		{testheap.Row(1), refsTo(64, 0, 0, 64, 0), []int{64}, []int{0, 64}, true},
		{testheap.Row(1), refsTo(64, 64, 2), []int{64}, []int{64}, false},
		{testheap.Row(2, 8), refsTo(26, 24, 28, 8), []int{8, 26}, []int{8, 24, 26, 28}, true},
		{testheap.Row(0), refsTo(128), nil, []int{128}, true},
		{testheap.Row(16), []api.Value{num(0), ref(4), {}, num(64), {Kind: 3, N: 96}, ref(99), ref(0), {N: 128}}, []int{4, 0}, []int{0, 4}, false},
	} {
		want := state{painted(h, x.turned...), api.Grey{Room: x.g.Room, Items: x.items}, x.over}
		if s := all(state{heap: h, row: x.g}, x.vs); !same(s, want) {
			t.Errorf("%d: %+v; not %+v", i, s, want)
		}
	}
}

// TestAllOfFullHeaps is of P16.1: more objects than any row has room for: the first ones are in it, all are black.
func TestAllOfFullHeaps(t *testing.T) {
	for _, pages := range []int{1, 2, 16} {
		for class := range api.Classes {
			h, addresses := full(pages, class)
			order := slices.Clone(addresses)
			slices.Reverse(order)
			for room := range 17 {
				n := min(room, len(order))
				want := state{painted(h, addresses...), api.Grey{Room: room, Items: order[:n]}, n < len(order)}
				if s := all(state{heap: h, row: api.Grey{Room: room}}, refsTo(order...)); !same(s, want) {
					t.Fatalf("%d pages of class %d, room %d: %+v", pages, class, room, s)
				}
			}
		}
	}
}

// TestAllIsEach is of P16.1: All does what Shade of each does, one behind the other.
func TestAllIsEach(t *testing.T) {
	for seed := range 400 {
		number := testheap.Numbers(seed)
		h := testheap.AnyHeap(number, 1+seed%16)
		room := number(17)
		g := testheap.Row(room, someItems(number(room+1))...)
		vs := slices.Concat(testheap.AnyValues(number, h), refsTo(object.List(h)[:number(len(object.List(h))+1)]...), testheap.AnyValues(number, h))
		step, over := state{heap: h, row: g}, false
		for _, v := range vs {
			step = mustShade(t, step.heap, step.row, v)
			over = over || step.over
		}
		step.over = over
		if s := mustShadeAll(t, h, g, vs); !same(s, step) {
			t.Fatalf("seed %d: All: %+v; each: %+v", seed, s, step)
		}
	}
}

// TestLongLists is of P16.1: as many values as may come, all of the same few objects, and of none.
func TestLongLists(t *testing.T) {
	h := mixed()
	vs := slices.Repeat([]api.Value{ref(2), num(4), ref(96), {}, ref(-1), ref(0), ref(96), ref(33)}, 20000)
	want := state{painted(h, 0, 96), testheap.Row(2, 96, 0), false}
	if s := all(state{heap: h, row: testheap.Row(2)}, vs); !same(s, want) {
		t.Errorf("All: %+v; not %+v", s, want)
	}
	want = state{painted(h, 0, 96), testheap.Row(1, 96), true}
	if s := all(state{heap: h, row: testheap.Row(1)}, vs); !same(s, want) {
		t.Errorf("All, into less room: %+v; not %+v", s, want)
	}
}

// TestNothingElse is of P16.2: where objects lie apart, what is shaded is black, and each other object, and each field, is
// as it was.
func TestNothingElse(t *testing.T) {
	for class := range api.Classes {
		for room := range 4 {
			h, addresses := full(2, class)
			g := api.Grey{Room: room}
			for i, at := range addresses {
				n, next, _ := shade.Shade(h, g, ref(at))
				for j, other := range addresses {
					if black := object.Black(n, other); black != (j <= i) {
						t.Fatalf("class %d, room %d: behind %d, %d is black: %t", class, room, at, other, black)
					}
					if v, e := object.Field(n, other, 0); e != api.OK || v != ref((other*3+testheap.WordsOf(class))%len(h.Words)) {
						t.Fatalf("class %d, room %d: behind %d, %d has the field %v, %d", class, room, at, other, v, e)
					}
				}
				if !slices.Equal(n.Spans, h.Spans) || n.Sense != h.Sense || !slices.Equal(object.List(n), addresses) {
					t.Fatalf("class %d, room %d: behind %d: %+v", class, room, at, n)
				}
				h, g = n, next
			}
		}
	}
}

// TestOnceMore is of P16.2: as what was shaded is black, nothing happens, if it is shaded once more.
func TestOnceMore(t *testing.T) {
	for seed := range 200 {
		number := testheap.Numbers(seed)
		h := testheap.AnyHeap(number, 1+seed%16)
		vs := refsTo(object.List(h)...)
		s := mustShadeAll(t, h, api.Grey{Room: seed % 17}, vs)
		for _, v := range vs {
			if !object.Black(s.heap, v.N) {
				t.Fatalf("seed %d: %d isn't black", seed, v.N)
			}
		}
		s.over = false
		if again := mustShadeAll(t, s.heap, s.row, vs); !same(again, s) {
			t.Fatalf("seed %d: once more: %+v; not %+v", seed, again, s)
		}
	}
}

// mustBeNew fails, if what a call answers shares memory with what it is handed, or with another answer of it. It writes
// over what it is handed.
func mustBeNew(t *testing.T, s state, call func(state) state) {
	t.Helper()
	was := kept(s)
	one, two := call(s), call(s)
	want := kept(two)
	scrawl(one)
	if !untouched(s, was) || !same(two, want) {
		t.Fatalf("of %+v: written into its answer: %+v, and %+v", was, s, two)
	}
	scrawl(s)
	if !same(two, want) {
		t.Fatalf("of %+v: written into that: %+v; not %+v", was, two, want)
	}
}

// TestNewMemory is of P16.3: where something happens, the heap and the row are new, the row also where it is over and stays
// as it was.
func TestNewMemory(t *testing.T) {
	for _, g := range someRows() {
		for _, at := range whites {
			s := state{heap: mixed(), row: testheap.KeptRow(g)}
			mustBeNew(t, s, func(s state) state { return one(s, ref(at)) })
		}
		for _, vs := range [][]api.Value{refsTo(0), refsTo(2, 96, 1), refsTo(128, 128), refsTo(64, 2, 4, 24), {{}, ref(26), num(4)}} {
			s := state{heap: mixed(), row: testheap.KeptRow(g)}
			mustBeNew(t, s, func(s state) state { return all(s, vs) })
		}
	}
}

// TestStays is of P16.3: what is handed in stays, the room behind its lists too, whatever happens.
func TestStays(t *testing.T) {
	heaps := []api.Heap{mixed()}
	for seed := range 10 {
		heaps = append(heaps, testheap.AnyHeap(testheap.Numbers(seed), 1+seed))
	}
	for _, h := range heaps {
		for _, g := range someRows() {
			for _, vs := range [][]api.Value{nil, refsTo(), refsTo(2, 1, 0, 0, 96, 4, -1), append(refsTo(64, 24), num(3), ref(128), api.Value{})} {
				mustShadeAll(t, h, g, vs)
				for _, v := range vs {
					mustShade(t, h, g, v)
				}
			}
		}
	}
}

// TestNoneIsKept is of P16.3: what comes of one heap and one row, each is its own, and stays when others come.
func TestNoneIsKept(t *testing.T) {
	for _, g := range someRows() {
		h := mixed()
		var got, keep []state
		for _, at := range slices.Concat(whites, blacks) {
			got = append(got, mustShade(t, h, g, ref(at)), mustShadeAll(t, h, g, refsTo(at, 0, 128)))
		}
		for _, s := range got {
			keep = append(keep, kept(s))
		}
		for _, s := range got {
			mustShadeAll(t, s.heap, s.row, refsTo(4, 8, 64))
		}
		for i, s := range got {
			if !untouched(s, keep[i]) {
				t.Fatalf("%+v, that was %+v", s, keep[i])
			}
		}
	}
}

// FuzzShade is of P16.1 to P16.3, of whatever words and values come: two bytes are a word, three a value.
func FuzzShade(f *testing.F) {
	f.Add([]byte{1, 2, 0}, []byte{0, 129, 0, 66, 0, 129, 0, 4}, []byte{2, 0, 0, 2, 0, 2}, 3, true)
	f.Add([]byte{8, 5, 4, 7}, []byte{0, 191, 0, 2, 0, 66, 0, 129, 1, 2}, []byte{2, 0, 0, 0, 0, 0, 1, 0, 0, 2, 255, 255}, 0, true)
	f.Add([]byte{}, []byte{}, []byte{1}, 16, false)
	f.Fuzz(func(t *testing.T, pages, words, values []byte, row int, sense bool) {
		h := testheap.OfBytes(pages, words)
		h.Sense = sense
		room := int(uint(row) % 17)
		g := testheap.Row(room, someItems(int(uint(row)/17%uint(room+1)))...)
		var vs []api.Value
		for p := range slices.Chunk(values, 3) {
			vs = append(vs, api.Value{Kind: int(int8(p[0])), N: int(int8(p[len(p)/2]))<<8 + int(p[len(p)-1])})
		}
		mustShadeAll(t, h, g, vs)
		s := state{heap: h, row: g}
		for _, v := range vs {
			s = mustShade(t, s.heap, s.row, v)
		}
		if _, happens := shaded(state{heap: h, row: g}, vs); happens {
			mustBeNew(t, state{heap: h, row: g}, func(s state) state { return all(s, vs) })
		}
	})
}
