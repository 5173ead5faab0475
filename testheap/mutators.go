package testheap

import (
	"slices"

	"flotsam/api"
)

// SameMutator tells whether two mutators are the same, their stacks value by value.
func SameMutator(a, b api.Mutator) bool {
	return a.State == b.State && a.Op == b.Op && a.Obj == b.Obj && a.Val == b.Val && a.Cache == b.Cache && slices.Equal(a.Stack, b.Stack)
}

// KeptMutators answers mutators as ms are, of memory of their own, with the room behind their lists.
func KeptMutators(ms []api.Mutator) []api.Mutator {
	all := slices.Clone(Whole(ms))
	for i, m := range all {
		values := slices.Clone(Whole(m.Stack))
		all[i].Stack = values[:len(m.Stack):len(values)]
	}
	return all[:len(ms):len(all)]
}

// UntouchedMutators tells whether ms are as they were kept, the room behind their lists included.
func UntouchedMutators(ms, was []api.Mutator) bool {
	return len(ms) == len(was) && slices.EqualFunc(Whole(ms), Whole(was), func(a, b api.Mutator) bool {
		return SameMutator(a, b) && slices.Equal(Whole(a.Stack), Whole(b.Stack))
	})
}

// ScrawlMutators writes over all of some mutators' lists, and the room behind them.
func ScrawlMutators(ms []api.Mutator) {
	for i := range Whole(ms) {
		ScrawlValues(Whole(ms)[i].Stack)
		Whole(ms)[i] = api.Mutator{State: -99}
	}
}

// ScrawlValues writes over all of a list of values, and the room behind it.
func ScrawlValues(vs []api.Value) {
	for i := range Whole(vs) {
		Whole(vs)[i] = api.Value{Kind: -99}
	}
}

// AnyMutators answers a few mutators, at rest or in the midst of anything, most often of a Write to an object of the heap,
// with room behind them that looks like one more.
func AnyMutators(number func(below int) int, h api.Heap) []api.Mutator {
	var ms []api.Mutator
	for range number(api.MaxMutators + 1) {
		m := api.Mutator{
			Stack: AnyValues(number, h),
			State: []int{api.AtRest, api.AtClaim, api.AtTake, api.AtPush, api.AtStore, api.AtStore, api.AtStore}[number(7)],
			Op:    api.Op{Kind: number(api.Ops), A: number(4), B: number(17) - 1, C: number(4)},
			Obj:   number(len(h.Words)+2) - 1,
			Val:   AnyValue(number, h),
			Cache: [api.Classes]int{number(3) - 1, -1, -1, number(3) - 1},
		}
		if scanned := withFields(h); number(3) > 0 && len(scanned) > 0 {
			m.Obj = scanned[number(len(scanned))]
			m.Op.B = number(HeaderAt(h, m.Obj).Count + 1)
		}
		ms = append(ms, m)
	}
	return WithRoom(ms, api.Mutator{Stack: RefsTo(0), State: api.AtStore, Val: api.Value{Kind: api.Ref}})
}

// RegistersOf answers, by the chapter's words alone, what a mutator's registers hold.
func RegistersOf(m api.Mutator) []api.Value {
	obj := api.Value{Kind: api.Ref, N: m.Obj}
	var l []api.Value
	if m.State == 2 || m.State == 4 {
		l = append(l, obj)
	}
	if m.State == 3 || m.State == 4 {
		l = append(l, m.Val)
	}
	return l
}

// HeldBy answers, by the chapter's words alone, what mutators hold.
func HeldBy(ms []api.Mutator) []api.Value {
	var l []api.Value
	for _, m := range ms {
		l = slices.Concat(l, m.Stack, RegistersOf(m))
	}
	return l
}

// TakenAway answers, by the chapters' words alone, what the pending writes of mutators take away.
func TakenAway(h api.Heap, ms []api.Mutator) []api.Value {
	var l []api.Value
	for _, m := range ms {
		var v api.Value
		if x := HeaderAt(h, m.Obj); m.Op.B >= 0 && m.Op.B < x.Count {
			v = Fields(h, m.Obj)[m.Op.B]
		}
		if m.State == 4 {
			l = append(l, v)
		}
	}
	return l
}
