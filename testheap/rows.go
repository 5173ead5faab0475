package testheap

import (
	"slices"

	"flotsam/api"
)

// Row answers a row of so much room, of those items, with room behind its list that is filled with an item that may be.
func Row(room int, items ...int) api.Grey {
	return api.Grey{Room: room, Items: WithRoom(items, 77)}
}

// SameRow tells whether two rows are the same, their lists item by item.
func SameRow(a, b api.Grey) bool {
	return a.Room == b.Room && slices.Equal(a.Items, b.Items)
}

// KeptRow answers a row as g is, of memory of its own, with the room behind its list.
func KeptRow(g api.Grey) api.Grey {
	items := slices.Clone(Whole(g.Items))
	return api.Grey{Room: g.Room, Items: items[:len(g.Items):len(items)]}
}

// UntouchedRow tells whether g is as it was kept, the room behind its list included.
func UntouchedRow(g, was api.Grey) bool {
	return SameRow(g, was) && slices.Equal(Whole(g.Items), Whole(was.Items))
}

// ScrawlRow writes over all of a row's list, and the room behind it.
func ScrawlRow(g api.Grey) {
	for i := range Whole(g.Items) {
		Whole(g.Items)[i] = -99
	}
}
