package testheap

import "flotsam/api"

// RefTo answers the word of a Ref to an address.
func RefTo(at int) uint64 { return uint64(2 * (at + 1)) }

// AnyHeap answers a heap of so many pages of each kind, with words in it that are headers and Refs more often than not.
func AnyHeap(number func(below int) int, pages int) api.Heap {
	spans := make([]api.Span, pages)
	for i := range spans {
		if number(5) > 0 {
			spans[i] = api.Span{State: 1 + number(2), Class: number(api.Classes)}
		}
	}
	h := Blank(spans...)
	h.Sense = number(2) == 1
	for at := range h.Words {
		w := uint64(number(270))
		if number(3) > 0 {
			w = RefTo(number(len(h.Words) + 8))
		}
		if s := spans[at/32]; number(4) > 0 && at%WordsOf(s.Class) == 0 {
			w = uint64(128 + 64*number(2) + 16*s.Class + number(WordsOf(s.Class)))
		}
		h.Words[at] = w
	}
	return h
}

// AnyValues answers a few values, most of them Refs into the heap, with room behind them that looks like one more.
func AnyValues(number func(below int) int, h api.Heap) []api.Value {
	var vs []api.Value
	for range number(4) {
		vs = append(vs, api.Value{Kind: []int{api.Nil, api.Int, api.Ref, api.Ref, api.Ref, 3}[number(6)], N: number(len(h.Words)+2) - 1})
	}
	return WithRoom(vs, api.Value{Kind: api.Ref})
}
