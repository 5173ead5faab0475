// Package testheap helps the tests to write heaps out by hand, and to see what becomes of those that are handed in or
// answered. It calls no layer, so what it tells of a heap is told by the chapters' words alone.
package testheap

import (
	"math"
	"slices"

	"flotsam/api"
)

// Colour is the colour's bit of a header's word.
const Colour = 64

// WithRoom answers a list of its own with that in it, and room behind its length that is filled with filler.
func WithRoom[T any](l []T, filler T) []T {
	out := append(slices.Clone(l), filler, filler, filler)
	return out[:len(l)]
}

// Whole are a list's items, with the room behind its length.
func Whole[T any](l []T) []T { return l[:cap(l)] }

// Blank answers a heap of these spans, all words 0, with room behind both lists that looks like objects and their span.
func Blank(spans ...api.Span) api.Heap {
	return api.Heap{
		Words: WithRoom(make([]uint64, api.PageWords*len(spans)), 128),
		Spans: WithRoom(spans, api.Span{State: api.SpanClean, Class: 0, Free: 1}),
	}
}

// Write puts words into a heap's, from an address on.
func Write(h api.Heap, at int, words ...uint64) { copy(h.Words[at:], words) }

// WordsOf answers how many words a class's block has.
func WordsOf(class int) int { return [...]int{2, 4, 8, 16}[class] }

// HeaderAt answers the header of the object that is at an address; not Used, if none is.
func HeaderAt(h api.Heap, at int) api.Header {
	if at < 0 || at >= len(h.Words) || h.Spans[at/32].State == api.SpanFree || at%WordsOf(h.Spans[at/32].Class) != 0 {
		return api.Header{}
	}
	w := h.Words[at]
	if w < 128 || w > 255 {
		return api.Header{}
	}
	x := api.Header{Used: true, Colour: w >= 192, Class: int(w % 64 / 16), Count: int(w % 16)}
	if x.Count > WordsOf(x.Class)-1 || (at+x.Count)/32 != at/32 {
		return api.Header{}
	}
	return x
}

// Kept answers a heap as h is, of memory of its own, with the room behind its lists.
func Kept(h api.Heap) api.Heap {
	words, spans := slices.Clone(Whole(h.Words)), slices.Clone(Whole(h.Spans))
	return api.Heap{Words: words[:len(h.Words):len(words)], Spans: spans[:len(h.Spans):len(spans)], Sense: h.Sense}
}

// Same tells whether two heaps are the same, their lists item by item.
func Same(a, b api.Heap) bool {
	return a.Sense == b.Sense && slices.Equal(a.Words, b.Words) && slices.Equal(a.Spans, b.Spans)
}

// Untouched tells whether h is as it was kept, the room behind its lists included.
func Untouched(h, was api.Heap) bool {
	return Same(h, was) && slices.Equal(Whole(h.Words), Whole(was.Words)) && slices.Equal(Whole(h.Spans), Whole(was.Spans))
}

// Scrawl writes over all of a heap's lists, and the room behind them.
func Scrawl(h api.Heap) {
	for i := range Whole(h.Words) {
		Whole(h.Words)[i] = 99
	}
	for i := range Whole(h.Spans) {
		Whole(h.Spans)[i] = api.Span{State: 9, Class: 9, Free: 9}
	}
}

// OfNewMemory tells whether a call is done, and what it answers shares no memory with h, nor with another answer. It
// writes over h.
func OfNewMemory(h api.Heap, call func(api.Heap) (api.Heap, bool)) bool {
	was := Kept(h)
	one, ok := call(h)
	two, again := call(h)
	want := Kept(two)
	Scrawl(one)
	apart := Untouched(h, was) && Same(two, want)
	Scrawl(h)
	return ok && again && apart && Same(two, want)
}

// Far are numbers that are no page, class, count, field or address: such as would be right in fewer bits too.
func Far() []int {
	return []int{
		-1, -2, -3, -4, -8, -15, -16, -17, -31, -32, -33, -64, -128, -256, -512,
		512, 513, 514, 544, 576, 1024, 4096, 1 << 16, 1<<16 + 1, 1 << 32, 1<<32 + 1, 1<<32 + 32, 1<<32 + 128, -1 << 32, -1<<32 + 32, -1<<32 + 128,
		1 << 59, 1 << 60, 1<<60 + 32, 1<<60 + 128, math.MaxInt32, math.MinInt32, math.MaxInt, math.MaxInt - 31, math.MinInt, math.MinInt + 32, math.MinInt + 128,
	}
}

// Numbers answers what hands out a long row of numbers, each from 0 on and below what it is asked for; each seed has its own.
func Numbers(seed int) func(below int) int {
	n := uint32(seed)
	return func(below int) int {
		n = n*1664525 + 1013904223
		return int(n >> 16 % uint32(below))
	}
}
