package testheap

import (
	"slices"

	"flotsam/api"
)

// SameMarker tells whether two markers are the same, their lists item by item.
func SameMarker(a, b api.Marker) bool {
	return a.Obj == b.Obj && a.Field == b.Field && a.Cursor == b.Cursor && a.Over == b.Over &&
		SameRow(a.Grey, b.Grey) && slices.EqualFunc(a.Barriers, b.Barriers, SameRow) && slices.Equal(a.Roots, b.Roots)
}

// KeptMarker answers a marker as m is, of memory of its own, with the room behind its lists.
func KeptMarker(m api.Marker) api.Marker {
	rows := make([]api.Grey, cap(m.Barriers))
	for i, g := range Whole(m.Barriers) {
		rows[i] = KeptRow(g)
	}
	roots := slices.Clone(Whole(m.Roots))
	m.Grey, m.Barriers, m.Roots = KeptRow(m.Grey), rows[:len(m.Barriers)], roots[:len(m.Roots):len(roots)]
	return m
}

// UntouchedMarker tells whether m is as it was kept, the room behind its lists included.
func UntouchedMarker(m, was api.Marker) bool {
	return SameMarker(m, was) && UntouchedRow(m.Grey, was.Grey) &&
		slices.EqualFunc(Whole(m.Barriers), Whole(was.Barriers), UntouchedRow) && slices.Equal(Whole(m.Roots), Whole(was.Roots))
}

// ScrawlOtherwise writes over those of a marker's lists, and the room behind them, that are otherwise than in another one:
// those that stay as they were may be shared with that. The mutators' rows are one of these lists.
func ScrawlOtherwise(m, other api.Marker) {
	if !SameRow(m.Grey, other.Grey) {
		ScrawlRow(m.Grey)
	}
	if !slices.EqualFunc(m.Barriers, other.Barriers, SameRow) {
		for _, g := range m.Barriers {
			ScrawlRow(g)
		}
		for i := range Whole(m.Barriers) {
			Whole(m.Barriers)[i] = api.Grey{Room: -99}
		}
	}
	if !slices.Equal(m.Roots, other.Roots) {
		ScrawlValues(m.Roots)
	}
}

// Stepped answers, by the chapter's words alone, what is behind a step of a marker that is right beside a heap, and whether
// marking is done.
func Stepped(h api.Heap, m api.Marker) (api.Heap, api.Marker, bool) {
	h, m = Kept(h), KeptMarker(m)
	who := slices.IndexFunc(m.Barriers, func(g api.Grey) bool { return len(g.Items) > 0 })
	switch {
	case m.Obj != -1:
		fields := Fields(h, m.Obj)
		shadeWithItsRow(&h, &m, fields[m.Field])
		if m.Field++; m.Field == len(fields) {
			m.Obj, m.Field = -1, 0
		}
	case len(m.Grey.Items) > 0:
		takeLast(h, &m, &m.Grey)
	case who >= 0:
		takeLast(h, &m, &m.Barriers[who])
	case len(m.Roots) > 0:
		first := m.Roots[0]
		m.Roots = m.Roots[1:]
		shadeWithItsRow(&h, &m, first)
	case m.Cursor != -1:
		at, ok := nextBlack(h, m.Cursor)
		m.Cursor = -1
		if ok {
			m.Cursor = at + 1
			takeInHand(h, &m, at)
		}
	case m.Over:
		m.Over, m.Cursor = false, 0
	default:
		return h, m, true
	}
	return h, m, false
}

// shadeWithItsRow shades a value with the marker's row.
func shadeWithItsRow(h *api.Heap, m *api.Marker, v api.Value) {
	if _, over := Shade(h, &m.Grey, v); over {
		m.Over = true
	}
}

// takeLast pops a row's last one, and takes it in hand.
func takeLast(h api.Heap, m *api.Marker, row *api.Grey) {
	last := len(row.Items) - 1
	at := row.Items[last]
	row.Items = row.Items[:last]
	takeInHand(h, m, at)
}

// takeInHand takes the object at an address in hand.
func takeInHand(h api.Heap, m *api.Marker, at int) {
	if HeaderAt(h, at).Count > 0 {
		m.Obj, m.Field = at, 0
	}
}

// nextBlack answers the least black object at an address or behind, and whether there is one.
func nextBlack(h api.Heap, at int) (int, bool) {
	for ; at < len(h.Words); at++ {
		if x := HeaderAt(h, at); x.Used && x.Colour == h.Sense {
			return at, true
		}
	}
	return 0, false
}
