package testheap

import (
	"slices"

	"flotsam/api"
)

// MutatorTurn answers, by the chapter's words alone, the world behind a mutator's turn, and the event.
func MutatorTurn(was api.World, who int, o api.Op) (api.World, api.Event) {
	w := KeptWorld(was)
	m := w.Mutators[who]
	switch m.State {
	case 0:
		if e := ErrorOf(w.Heap, m.Stack, w.Conf.Roots, o); e != 0 {
			return ended(w, who, e)
		}
		return begun(w, who, o)
	case 1:
		return claimed(w, who)
	case 2:
		return pushed(w, who, api.Value{Kind: api.Ref, N: m.Obj})
	case 3:
		return pushed(w, who, m.Val)
	}
	if i := m.Op.B; i >= 0 && i < HeaderAt(w.Heap, m.Obj).Count {
		if word, ok := wordOf(m.Val); ok {
			w.Heap.Words[m.Obj+1+i] = word
		}
	}
	return ended(w, who, 0)
}

// begun answers what is behind the turn of a mutator at rest whose operation may be done.
func begun(w api.World, who int, o api.Op) (api.World, api.Event) {
	m := &w.Mutators[who]
	at := func(slot int) api.Value { return m.Stack[slot] }
	switch o.Kind {
	case 0:
		w, _ = SweeperTurn(w)
		w.Mutators[who].State = 1
	case 1:
		m.State, m.Val = 3, Fields(w.Heap, at(o.A).N)[o.B]
	case 2:
		m.State, m.Obj, m.Val = 4, at(o.A).N, at(o.C)
		if w.Phase == 1 {
			note(&w, who, Fields(w.Heap, m.Obj)[o.B])
		}
	case 3:
		return pushed(w, who, at(o.A))
	case 4:
		return pushed(w, who, api.Value{Kind: api.Int, N: o.A})
	case 5:
		m.Stack = m.Stack[:len(m.Stack)-1]
		return ended(w, who, 0)
	default:
		w.Want = true
		return ended(w, who, 0)
	}
	w.Mutators[who].Op = o
	return w, api.Event{Who: who, What: api.EvWork}
}

// claimed answers what is behind the turn of a mutator that claims an object.
func claimed(w api.World, who int) (api.World, api.Event) {
	h, caches, at, ok := Taken(w.Heap, CachesOf(w), who, w.Mutators[who].Op.A)
	switch {
	case ok:
		w.Heap = h
		for i, x := range caches {
			w.Mutators[i].Cache = x
		}
		w.Mutators[who].Obj, w.Mutators[who].State = at, 2
	case w.Phase == 2:
		w, _ = SweeperTurn(w)
	default:
		w.Want = true
		return ended(w, who, 6)
	}
	return w, api.Event{Who: who, What: api.EvWork}
}

// note shades a value with a mutator's row.
func note(w *api.World, who int, v api.Value) {
	if _, over := Shade(&w.Heap, &w.Marker.Barriers[who], v); over {
		w.Marker.Over = true
	}
}

// pushed answers a world in which a value is pushed for a mutator, and the event by which its operation ends.
func pushed(w api.World, who int, v api.Value) (api.World, api.Event) {
	w.Mutators[who].Stack = slices.Concat(w.Mutators[who].Stack, []api.Value{v})
	w, e := ended(w, who, 0)
	e.Val = v
	return w, e
}

// ended answers a world in which a mutator's operation has ended with an error, and the event.
func ended(w api.World, who int, e api.Errno) (api.World, api.Event) {
	m := w.Mutators[who]
	w.Mutators[who] = api.Mutator{Stack: m.Stack, Cache: m.Cache}
	return w, api.Event{Who: who, What: api.EvDone, Err: e}
}

// wordOf answers the word of a value, and whether that may be.
func wordOf(v api.Value) (uint64, bool) {
	switch {
	case v.Kind == 0 && v.N == 0:
		return 0, true
	case v.Kind == 1 && v.N >= 0:
		return 2*uint64(v.N) + 1, true
	case v.Kind == 2 && v.N >= 0 && v.N < 1<<63-1:
		return 2 * (uint64(v.N) + 1), true
	}
	return 0, false
}
