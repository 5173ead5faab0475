package testheap

import (
	"slices"

	"flotsam/api"
)

// RefsTo answers Refs to those addresses, with room behind them in which one more seems to be.
func RefsTo(to ...int) []api.Value {
	var vs []api.Value
	for _, at := range to {
		vs = append(vs, api.Value{Kind: api.Ref, N: at})
	}
	return WithRoom(vs, api.Value{Kind: api.Ref})
}

// ValueOf answers the value whose word w is.
func ValueOf(w uint64) api.Value {
	if w%2 == 1 {
		return api.Value{Kind: api.Int, N: int((w - 1) / 2)}
	}
	if w == 0 {
		return api.Value{}
	}
	return api.Value{Kind: api.Ref, N: int((w - 2) / 2)}
}

// Fields answers the fields of the object at an address.
func Fields(h api.Heap, at int) []api.Value {
	var vs []api.Value
	for _, w := range h.Words[at+1 : at+1+HeaderAt(h, at).Count] {
		vs = append(vs, ValueOf(w))
	}
	return vs
}

// Reached answers, by the chapters' words alone, what is reached: those at once, and, as long as there are more, those to
// which these refer.
func Reached(h api.Heap, vs []api.Value) []int {
	l := reachedAtOnce(h, vs)
	for {
		more := slices.Clone(l)
		for _, at := range l {
			more = append(more, reachedAtOnce(h, Fields(h, at))...)
		}
		slices.Sort(more)
		more = slices.Compact(more)
		if slices.Equal(more, l) {
			return l
		}
		l = more
	}
}

// reachedAtOnce answers the objects to which some values lead at once.
func reachedAtOnce(h api.Heap, vs []api.Value) []int {
	var l []int
	for _, v := range vs {
		if v.Kind == api.Ref && HeaderAt(h, v.N).Used {
			l = append(l, v.N)
		}
	}
	return l
}

// Shade shades a value, by the chapters' words alone, in a heap and with a row of the test's own, that it writes into. It
// tells whether anything happens, and whether it is over.
func Shade(h *api.Heap, g *api.Grey, v api.Value) (happens, over bool) {
	x := HeaderAt(*h, v.N)
	if v.Kind != api.Ref || !x.Used || x.Colour == h.Sense {
		return false, false
	}
	h.Words[v.N] ^= Colour
	if len(g.Items) == g.Room {
		return true, true
	}
	g.Items = append(slices.Clone(g.Items), v.N)
	return true, false
}
