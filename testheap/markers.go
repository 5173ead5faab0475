package testheap

import (
	"slices"

	"flotsam/api"
)

// SameMarker tells whether two markers are the same, their lists item by item.
func SameMarker(a, b api.Marker) bool {
	return a.Obj == b.Obj && a.Field == b.Field && a.Cursor == b.Cursor && a.Over == b.Over &&
		SameRow(a.Grey, b.Grey) && slices.EqualFunc(a.Barriers, b.Barriers, SameRow) && slices.Equal(a.Roots, b.Roots)
}

// KeptMarker answers a marker as m is, of memory of its own, with the room behind its lists.
func KeptMarker(m api.Marker) api.Marker {
	rows := make([]api.Grey, cap(m.Barriers))
	for i, g := range Whole(m.Barriers) {
		rows[i] = KeptRow(g)
	}
	roots := slices.Clone(Whole(m.Roots))
	m.Grey, m.Barriers, m.Roots = KeptRow(m.Grey), rows[:len(m.Barriers)], roots[:len(m.Roots):len(roots)]
	return m
}

// UntouchedMarker tells whether m is as it was kept, the room behind its lists included.
func UntouchedMarker(m, was api.Marker) bool {
	return SameMarker(m, was) && UntouchedRow(m.Grey, was.Grey) &&
		slices.EqualFunc(Whole(m.Barriers), Whole(was.Barriers), UntouchedRow) && slices.Equal(Whole(m.Roots), Whole(was.Roots))
}

// ScrawlOtherwise writes over those of a marker's lists, and the room behind them, that are otherwise than in another one:
// those that stay as they were may be shared with that. The mutators' rows are one of these lists.
func ScrawlOtherwise(m, other api.Marker) {
	if !SameRow(m.Grey, other.Grey) {
		ScrawlRow(m.Grey)
	}
	if !slices.EqualFunc(m.Barriers, other.Barriers, SameRow) {
		for _, g := range m.Barriers {
			ScrawlRow(g)
		}
		for i := range Whole(m.Barriers) {
			Whole(m.Barriers)[i] = api.Grey{Room: -99}
		}
	}
	if !slices.Equal(m.Roots, other.Roots) {
		ScrawlValues(m.Roots)
	}
}
