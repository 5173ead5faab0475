package testheap

import (
	"slices"

	"flotsam/api"
)

// ErrorOf answers, by the chapters' words alone, what is told of an operation: the first of these that holds.
func ErrorOf(h api.Heap, stack []api.Value, room int, o api.Op) api.Errno {
	there := func(i int) bool { return i >= 0 && i < len(stack) }
	var v api.Value
	if there(o.A) {
		v = stack[o.A]
	}
	x := HeaderAt(h, v.N)
	ofObject := o.Kind == 1 || o.Kind == 2
	for _, rule := range []struct {
		broken bool
		e      api.Errno
	}{
		{o.Kind < 0 || o.Kind > 6, 1},
		{o.Kind == 0 && (o.A < 0 || o.A > 15), 1},
		{o.Kind == 4 && (o.A < 0 || o.A > 1<<40), 1},
		{ofObject && !there(o.A), 3},
		{ofObject && v.Kind == 0, 2},
		{ofObject && v.Kind != 2, 7},
		{ofObject && !x.Used, 1},
		{ofObject && (o.B < 0 || o.B >= x.Count), 4},
		{o.Kind == 2 && !there(o.C), 3},
		{o.Kind == 3 && !there(o.A), 3},
		{o.Kind == 5 && len(stack) == 0, 3},
		{slices.Contains([]int{0, 1, 3, 4}, o.Kind) && len(stack) >= room, 5},
	} {
		if rule.broken {
			return rule.e
		}
	}
	return 0
}

// AnyOp answers an operation, most often one that names a slot of such a stack, and a field that may be.
func AnyOp(number func(below int) int, slots int) api.Op {
	return api.Op{Kind: number(api.Ops+2) - 1, A: number(slots+3) - 1, B: number(9) - 1, C: number(slots+2) - 1}
}
