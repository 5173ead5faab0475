package testheap

import (
	"slices"

	"flotsam/api"
)

// SameWorld tells whether two worlds are the same, their lists item by item.
func SameWorld(a, b api.World) bool {
	return a.Conf == b.Conf && a.Phase == b.Phase && a.Want == b.Want && a.Cycle == b.Cycle && Same(a.Heap, b.Heap) &&
		slices.EqualFunc(a.Mutators, b.Mutators, SameMutator) && SameMarker(a.Marker, b.Marker) && slices.Equal(a.Reports, b.Reports)
}

// KeptWorld answers a world as w is, of memory of its own, with the room behind its lists.
func KeptWorld(w api.World) api.World {
	reports := slices.Clone(Whole(w.Reports))
	w.Heap, w.Mutators, w.Marker = Kept(w.Heap), KeptMutators(w.Mutators), KeptMarker(w.Marker)
	w.Reports = reports[:len(w.Reports):len(reports)]
	return w
}

// UntouchedWorld tells whether w is as it was kept, the room behind its lists included.
func UntouchedWorld(w, was api.World) bool {
	return SameWorld(w, was) && Untouched(w.Heap, was.Heap) && UntouchedMutators(w.Mutators, was.Mutators) &&
		UntouchedMarker(w.Marker, was.Marker) && slices.Equal(Whole(w.Reports), Whole(was.Reports))
}

// ScrawlWorldOtherwise writes over those of a world's lists, and the room behind them, that are otherwise than in another
// one: those that stay as they were may be shared with that.
func ScrawlWorldOtherwise(w, other api.World) {
	if !slices.Equal(w.Heap.Words, other.Heap.Words) {
		Scrawl(api.Heap{Words: w.Heap.Words})
	}
	if !slices.Equal(w.Heap.Spans, other.Heap.Spans) {
		Scrawl(api.Heap{Spans: w.Heap.Spans})
	}
	if !slices.EqualFunc(w.Mutators, other.Mutators, SameMutator) {
		ScrawlMutators(w.Mutators)
	}
	ScrawlOtherwise(w.Marker, other.Marker)
	if !slices.Equal(w.Reports, other.Reports) {
		for i := range Whole(w.Reports) {
			Whole(w.Reports)[i] = api.Report{Cycle: -99}
		}
	}
}

// AnyWorld answers a world of so many pages that has its form, in any phase and in the midst of anything; of its heap's words
// some are objects, but most often it isn't sound.
func AnyWorld(number func(below int) int, pages int) api.World {
	h := AnyApart(number, pages)
	if number(3) == 0 {
		h = AnyHeap(number, pages)
	}
	freeAny(number, h)
	ms := AnyMutators(number, h)
	if len(ms) == 0 {
		ms = WithRoom([]api.Mutator{{Stack: AnyValues(number, h)}}, api.Mutator{State: api.AtPush})
	}
	w := api.World{
		Conf:     api.Conf{Pages: pages, Mutators: len(ms), Roots: 3 + number(6), Grey: number(api.MaxGrey + 1), Barrier: number(api.MaxBarrier + 1)},
		Heap:     h,
		Mutators: ms,
		Marker:   AnyMarker(number, h),
		Phase:    number(3),
		Want:     number(2) == 1,
		Cycle:    number(5),
		Reports:  WithRoom(make([]api.Report, number(3)), api.Report{Cycle: 7, Free: 7}),
	}
	if number(3) == 0 {
		// There is little left to be done.
		w.Marker = api.Marker{Grey: Row(1), Obj: -1, Cursor: -1}
	}
	w.Marker.Barriers = anyRows(number, h, len(ms))
	cacheAny(number, w)
	for i := range w.Reports {
		w.Reports[i] = api.Report{Cycle: i, Free: number(9), Live: number(9)}
	}
	return w
}

// AnyInPlay answers a world as AnyWorld does, whose mutators may have turns: those that are to push have room for a value, and
// those that claim name so many fields as may be. At rest are about half of them.
func AnyInPlay(number func(below int) int, pages int) api.World {
	w := AnyWorld(number, pages)
	if number(2) == 0 {
		w.Conf.Roots = 3
	}
	for i := range w.Mutators {
		m := &w.Mutators[i]
		if number(3) == 0 {
			*m = api.Mutator{Stack: m.Stack, Cache: m.Cache}
		}
		if number(4) == 0 {
			m.State = api.AtClaim
		}
		if m.State == api.AtClaim {
			m.Op = api.Op{Kind: api.OpAlloc, A: number(api.MaxFields + 1), B: number(3), C: -number(3)}
		}
		if isToPush := m.State >= api.AtClaim && m.State <= api.AtPush; isToPush && len(m.Stack) == w.Conf.Roots {
			m.Stack = m.Stack[:len(m.Stack)-1]
		}
		holdAny(number, w.Heap, m.Stack)
	}
	return w
}

// holdAny makes some values of a stack Refs to objects that have fields, if there are such.
func holdAny(number func(below int) int, h api.Heap, stack []api.Value) {
	scanned := withFields(h)
	for i := range stack {
		if number(2) == 0 && len(scanned) > 0 {
			stack[i] = api.Value{Kind: api.Ref, N: scanned[number(len(scanned))]}
		}
	}
}

// freeAny makes blocks of a heap free here and there, whatever is in them.
func freeAny(number func(below int) int, h api.Heap) {
	for i, s := range h.Spans {
		if s.State != api.SpanFree && number(2) == 0 {
			h.Spans[i].Free = AllFree(s.Class) & uint32(number(1<<16))
		}
	}
}

// anyRows answers so many rows, all of them empty now and then.
func anyRows(number func(below int) int, h api.Heap, n int) []api.Grey {
	rows := make([]api.Grey, n)
	areEmpty := number(2) == 0
	for i := range rows {
		if rows[i] = AnyRow(number, h); areEmpty {
			rows[i] = Row(number(api.MaxGrey + 1))
		}
	}
	return WithRoom(rows, Row(1, 0))
}

// cacheAny makes the mutators' caches right ones, with pages in them here and there.
func cacheAny(number func(below int) int, w api.World) {
	for i := range w.Mutators {
		w.Mutators[i].Cache = [api.Classes]int{-1, -1, -1, -1}
	}
	for page, s := range w.Heap.Spans {
		if who := number(len(w.Mutators)); s.State != api.SpanFree && number(2) == 0 && w.Mutators[who].Cache[s.Class] == -1 {
			w.Mutators[who].Cache[s.Class] = page
		}
	}
}
