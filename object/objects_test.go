package object

import (
	"slices"
	"testing"

	"flotsam/api"
)

// TestObjectsAreLeft is of P8.2: a walk over objects may be left at any of them, and begun anew.
func TestObjectsAreLeft(t *testing.T) {
	h := api.Heap{Words: make([]uint64, 32), Spans: []api.Span{{State: api.SpanClean, Class: 2}}}
	for _, at := range []int{0, 8, 24} {
		h.Words[at] = 160
	}
	walk, want := objects(h), List(h)
	for n := range len(want) + 1 {
		var l []int
		for at := range walk {
			if len(l) == n {
				break
			}
			l = append(l, at)
		}
		if !slices.Equal(l, want[:n]) {
			t.Errorf("left behind %d: %v, not %v", n, l, want[:n])
		}
	}
}
