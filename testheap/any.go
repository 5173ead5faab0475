package testheap

import "flotsam/api"

// RefTo answers the word of a Ref to an address.
func RefTo(at int) uint64 { return uint64(2 * (at + 1)) }

// anySpans answers so many spans of each kind, in which nothing is free.
func anySpans(number func(below int) int, pages int) []api.Span {
	spans := make([]api.Span, pages)
	for i := range spans {
		if number(5) > 0 {
			spans[i] = api.Span{State: 1 + number(2), Class: number(api.Classes)}
		}
	}
	return spans
}

// AnyHeap answers a heap of so many pages of each kind, with words in it that are headers and Refs more often than not.
func AnyHeap(number func(below int) int, pages int) api.Heap {
	spans := anySpans(number, pages)
	h := Blank(spans...)
	h.Sense = number(2) == 1
	for at := range h.Words {
		w := uint64(number(270))
		if number(3) > 0 {
			w = RefTo(number(len(h.Words) + 8))
		}
		if s := spans[at/32]; number(4) > 0 && at%WordsOf(s.Class) == 0 {
			w = uint64(128 + 64*number(2) + 16*s.Class + number(WordsOf(s.Class)))
		}
		h.Words[at] = w
	}
	return h
}

// AnyValue answers a value of any kind, most often a Ref into the heap.
func AnyValue(number func(below int) int, h api.Heap) api.Value {
	return api.Value{Kind: []int{api.Nil, api.Int, api.Ref, api.Ref, api.Ref, 3}[number(6)], N: number(len(h.Words)+2) - 1}
}

// AnyValues answers a few values, most of them Refs into the heap, with room behind them that looks like one more.
func AnyValues(number func(below int) int, h api.Heap) []api.Value {
	var vs []api.Value
	for range number(4) {
		vs = append(vs, AnyValue(number, h))
	}
	return WithRoom(vs, api.Value{Kind: api.Ref})
}

// AnyApart answers a heap of so many pages whose objects lie apart, all of them white, with fields that are Refs to objects
// more often than not.
func AnyApart(number func(below int) int, pages int) api.Heap {
	spans := anySpans(number, pages)
	h := Blank(spans...)
	h.Sense = number(2) == 1
	white := uint64(Colour)
	if h.Sense {
		white = 0
	}
	var all []int
	for i, s := range spans {
		for at := 32 * i; s.State != api.SpanFree && at < 32*i+32; at += WordsOf(s.Class) {
			if number(5) > 0 {
				all = append(all, at)
				h.Words[at] = 128 + white + uint64(16*s.Class+number(WordsOf(s.Class)))
			}
		}
	}
	for _, at := range all {
		for i := range HeaderAt(h, at).Count {
			h.Words[at+1+i] = []uint64{0, uint64(2*at + 1), RefTo(number(len(h.Words) + 8)), RefTo(all[number(len(all))]), RefTo(all[number(len(all))])}[number(5)]
		}
	}
	return h
}

// AnyRow answers a row of any room: empty, or with items most of which are addresses of the heap's words.
func AnyRow(number func(below int) int, h api.Heap) api.Grey {
	room := number(api.MaxGrey + 1)
	var items []int
	for range number(2) * number(room+1) {
		items = append(items, number(len(h.Words)+2))
	}
	return Row(room, items...)
}

// AnyMarker answers a marker that is right beside a heap, often one that has little left to be done.
func AnyMarker(number func(below int) int, h api.Heap) api.Marker {
	m := api.Marker{Grey: AnyRow(number, h), Obj: -1, Cursor: -1, Over: number(2) == 1}
	var rows []api.Grey
	for range number(4) {
		rows = append(rows, AnyRow(number, h))
	}
	m.Barriers = WithRoom(rows, Row(1, 0))
	if number(2) == 1 {
		m.Roots = AnyValues(number, h)
	}
	if number(2) == 1 {
		m.Cursor = number(len(h.Words) + 1)
	}
	if scanned := withFields(h); number(3) == 0 && len(scanned) > 0 {
		m.Obj = scanned[number(len(scanned))]
		m.Field = number(HeaderAt(h, m.Obj).Count)
	}
	return m
}

// withFields answers the addresses of all objects that have fields.
func withFields(h api.Heap) []int {
	var l []int
	for at := range h.Words {
		if HeaderAt(h, at).Count > 0 {
			l = append(l, at)
		}
	}
	return l
}

// OfBytes answers a heap of a clean page, and of one more for each byte, as long as there may be more; two bytes are a word.
func OfBytes(pages, words []byte) api.Heap {
	spans := []api.Span{{State: api.SpanClean, Class: 1}}
	for _, b := range pages[:min(len(pages), api.MaxPages-1)] {
		s := api.Span{State: int(b) % 3, Class: int(b) / 4 % api.Classes, Free: uint32(b) / 64}
		if s.State == api.SpanFree {
			s = api.Span{}
		}
		spans = append(spans, s)
	}
	h := Blank(spans...)
	for i := range min(len(words)/2, len(h.Words)) {
		h.Words[i] = uint64(words[2*i])<<8 + uint64(words[2*i+1])
	}
	return h
}
