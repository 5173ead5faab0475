package testheap

import (
	"slices"

	"flotsam/api"
)

// CachesOf answers the caches of a world's mutators.
func CachesOf(w api.World) [][api.Classes]int {
	var l [][api.Classes]int
	for _, m := range w.Mutators {
		l = append(l, m.Cache)
	}
	return l
}

// UsedWords answers, by the chapters' words alone, how many words the blocks have that aren't free.
func UsedWords(h api.Heap) int {
	n := 0
	for _, s := range h.Spans {
		for i := range 32 / WordsOf(s.Class) {
			if s.State != api.SpanFree && s.Free>>i&1 == 0 {
				n += WordsOf(s.Class)
			}
		}
	}
	return n
}

// WordsAt answers how many words the blocks have of the objects that are at those addresses, by what their headers tell.
func WordsAt(h api.Heap, addresses []int) int {
	n := 0
	for _, at := range addresses {
		n += WordsOf(HeaderAt(h, at).Class)
	}
	return n
}

// Blacks answers the addresses of a heap's black objects.
func Blacks(h api.Heap) []int {
	var l []int
	for at, ok := nextBlack(h, 0); ok; at, ok = nextBlack(h, at+1) {
		l = append(l, at)
	}
	return l
}

// ReportOf answers, by the chapter's words alone, the report as it would be, if marking were done.
func ReportOf(w api.World) api.Report {
	r := api.Report{Cycle: w.Cycle, Free: len(w.Heap.Words) - UsedWords(w.Heap), Live: WordsAt(w.Heap, Blacks(w.Heap))}
	r.Floating = r.Live - WordsAt(w.Heap, Reached(w.Heap, HeldBy(w.Mutators)))
	r.Freed = UsedWords(w.Heap) - r.Live
	return r
}

// MarkerTurn answers, by the chapter's words alone, the world behind the marker's turn, and what befell.
func MarkerTurn(was api.World) (api.World, int) {
	w := KeptWorld(was)
	switch {
	case w.Phase == api.Sweep:
		return SweeperTurn(was)
	case w.Phase == api.Idle && !w.Want:
		return w, api.EvNothing
	case w.Phase == api.Idle:
		w.Want, w.Phase = false, api.Mark
		w.Cycle++
		w.Heap.Sense = !w.Heap.Sense
		w.Marker = api.Marker{
			Grey:     api.Grey{Room: w.Conf.Grey},
			Barriers: slices.Repeat([]api.Grey{{Room: w.Conf.Barrier}}, len(w.Mutators)),
			Roots:    append(HeldBy(w.Mutators), TakenAway(w.Heap, w.Mutators)...),
			Obj:      -1,
			Cursor:   -1,
		}
		return w, api.EvSnapshot
	}
	h, m, done := Stepped(w.Heap, w.Marker)
	if !done {
		w.Heap, w.Marker = h, m
		return w, api.EvWork
	}
	w.Reports = append(w.Reports[:len(w.Reports):len(w.Reports)], ReportOf(w))
	for i, s := range w.Heap.Spans {
		if s.State == api.SpanClean {
			w.Heap.Spans[i].State = api.SpanDirty
		}
	}
	w.Marker, w.Phase = api.Marker{}, api.Sweep
	return w, api.EvMarked
}

// SweeperTurn answers, by the chapter's words alone, the world behind the sweeper's turn, and what befell.
func SweeperTurn(was api.World) (api.World, int) {
	w := KeptWorld(was)
	if w.Phase != api.Sweep {
		return w, api.EvNothing
	}
	w.Heap, _, _, _ = Swept(w.Heap, CachesOf(w))
	for _, s := range w.Heap.Spans {
		if s.State == api.SpanDirty {
			return w, api.EvWork
		}
	}
	w.Phase = api.Idle
	return w, api.EvSwept
}
