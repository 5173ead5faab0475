package snap_test

import (
	"math"
	"slices"
	"testing"

	"flotsam/api"
	"flotsam/heap"
	"flotsam/mark"
	"flotsam/object"
	"flotsam/reach"
	"flotsam/snap"
	"flotsam/testheap"
)

func ref(n int) api.Value { return api.Value{Kind: api.Ref, N: n} }

func num(n int) api.Value { return api.Value{Kind: api.Int, N: n} }

// values answers those, with room behind them that looks like one more.
func values(vs ...api.Value) []api.Value { return testheap.WithRoom(vs, ref(2)) }

// mutators answers those, with room behind them that looks like one more in the midst of a Write.
func mutators(ms ...api.Mutator) []api.Mutator {
	return testheap.WithRoom(ms, api.Mutator{Stack: values(num(9)), State: api.AtStore, Obj: 64, Val: ref(68), Op: api.Op{B: 0}})
}

// writer answers a mutator with a pending write to a field of what may be an object.
func writer(obj, field int, v api.Value, stack ...api.Value) api.Mutator {
	return api.Mutator{Stack: values(stack...), State: api.AtStore, Op: api.Op{Kind: api.OpWrite, B: field}, Obj: obj, Val: v}
}

// wrongStates are numbers that are no state in which registers hold anything.
func wrongStates() []int {
	return append([]int{api.AtRest, api.AtClaim, 5, 6, 7, 8, 256 + 2, 256 + 3, 256 + 4, 1<<32 + 2, 1<<32 + 3, 1<<32 + 4, -254, -252}, testheap.Far()...)
}

// mustTell fails, if Registers, Held or Pending answer anything else than the chapter tells, or change what they are handed.
func mustTell(t *testing.T, h api.Heap, ms []api.Mutator) {
	t.Helper()
	was, heapWas := testheap.KeptMutators(ms), testheap.Kept(h)
	for i, m := range ms {
		if got, want := snap.Registers(m), testheap.RegistersOf(m); !slices.Equal(got, want) {
			t.Fatalf("Registers(%+v): %v; not %v", was[i], got, want)
		}
	}
	if got, want := snap.Held(ms), testheap.HeldBy(was); !slices.Equal(got, want) {
		t.Fatalf("Held(%+v): %v; not %v", was, got, want)
	}
	if got, want := snap.Pending(h, ms), testheap.TakenAway(heapWas, was); !slices.Equal(got, want) {
		t.Fatalf("Pending(%+v, %+v): %v; not %v", heapWas, was, got, want)
	}
	mustStay(t, h, heapWas, ms, was)
}

// mustStay fails, if a heap or mutators aren't as they were kept, the room behind their lists included.
func mustStay(t *testing.T, h, heapWas api.Heap, ms, was []api.Mutator) {
	t.Helper()
	if !testheap.Untouched(h, heapWas) {
		t.Fatalf("the heap: %+v; that was %+v", h, heapWas)
	}
	if !testheap.UntouchedMutators(ms, was) {
		t.Fatalf("the mutators: %+v; those were %+v", ms, was)
	}
}

// mustBegin fails, if Begin answers anything else than the chapter tells, or changes what it is handed.
func mustBegin(t *testing.T, c api.Conf, h api.Heap, ms []api.Mutator) (api.Heap, api.Marker) {
	t.Helper()
	was, heapWas := testheap.KeptMutators(ms), testheap.Kept(h)
	turned := testheap.Kept(h)
	turned.Sense = !h.Sense
	want := api.Marker{
		Grey:     api.Grey{Room: c.Grey},
		Barriers: slices.Repeat([]api.Grey{{Room: c.Barrier}}, len(ms)),
		Roots:    append(testheap.HeldBy(was), testheap.TakenAway(heapWas, was)...),
		Obj:      -1,
		Cursor:   -1,
	}
	g, m := snap.Begin(c, h, ms)
	if !testheap.Same(g, turned) || !testheap.SameMarker(m, want) {
		t.Fatalf("Begin(%+v, %+v, %+v): %+v, %+v; not %+v, %+v", c, heapWas, was, g, m, turned, want)
	}
	if !mark.Right(g, m) {
		t.Fatalf("Begin(%+v, ..): a marker that isn't right: %+v", c, m)
	}
	mustStay(t, h, heapWas, ms, was)
	return g, m
}

// anyMoment answers a heap of any words, with mutators beside it, of its own for each seed.
func anyMoment(seed int) (api.Heap, []api.Mutator) {
	number := testheap.Numbers(seed)
	h := testheap.AnyHeap(number, 1+seed%16)
	return h, testheap.AnyMutators(number, h)
}

// TestExample is of P18.1: the chapter's example.
func TestExample(t *testing.T) {
	m := api.Mutator{State: api.AtPush, Val: num(5)}
	if l := snap.Registers(m); !slices.Equal(l, []api.Value{num(5)}) {
		t.Errorf("Registers: %v", l)
	}
	if l := snap.Held([]api.Mutator{m}); !slices.Equal(l, []api.Value{num(5)}) {
		t.Errorf("Held: %v", l)
	}
}

// TestRegisters is of P18.1: each state, whatever Obj and Val are, and whatever else the mutator has.
func TestRegisters(t *testing.T) {
	for _, n := range append([]int{0, 1, 2, 3, 511}, testheap.Far()...) {
		for _, v := range []api.Value{{}, num(n), ref(n), ref(7), {Kind: api.Nil, N: n}, {Kind: n, N: 3}} {
			for state, want := range map[int][]api.Value{api.AtTake: {ref(n)}, api.AtPush: {v}, api.AtStore: {ref(n), v}} {
				for kind := range api.Ops {
					m := api.Mutator{Stack: values(num(1), ref(2)), State: state, Op: api.Op{Kind: kind, A: 1, B: 2, C: 3}, Obj: n, Val: v, Cache: [api.Classes]int{3, 2, 1, 0}}
					if l := snap.Registers(m); !slices.Equal(l, want) {
						t.Errorf("Registers(%+v): %v, not %v", m, l, want)
					}
				}
			}
		}
	}
}

// TestRegistersThatHoldNothing is of P18.1: other states than these three, and such as would be one of them in fewer bits.
func TestRegistersThatHoldNothing(t *testing.T) {
	for _, state := range wrongStates() {
		m := api.Mutator{Stack: values(ref(4)), State: state, Op: api.Op{Kind: api.OpWrite}, Obj: 64, Val: num(5)}
		if l := snap.Registers(m); len(l) != 0 {
			t.Errorf("Registers(%+v): %v", m, l)
		}
		if l := snap.Held([]api.Mutator{m}); !slices.Equal(l, []api.Value{ref(4)}) {
			t.Errorf("Held(%+v): %v", m, l)
		}
		if l := snap.Pending(testheap.Mixed(), []api.Mutator{m}); len(l) != 0 {
			t.Errorf("Pending(.., %+v): %v", m, l)
		}
	}
}

// TestHeld is of P18.1: worked out by hand: mutator by mutator, the bottom of the stack first, the registers behind its top;
// nothing is left out that comes twice, that is Nil, or of no kind.
func TestHeld(t *testing.T) {
	odd := api.Value{Kind: 7, N: -3}
	for _, x := range []struct {
		ms   []api.Mutator
		want []api.Value
	}{
		{nil, nil},
		{mutators(), nil},
		{mutators(api.Mutator{}), nil},
		{mutators(api.Mutator{}, api.Mutator{Obj: 5, Val: num(6)}, api.Mutator{State: api.AtClaim, Obj: 5, Val: num(6)}), nil},
		{mutators(api.Mutator{Stack: values(ref(4), num(5), api.Value{}, ref(4), odd)}), []api.Value{ref(4), num(5), {}, ref(4), odd}},
		{mutators(api.Mutator{State: api.AtTake, Stack: values(num(1), num(2)), Obj: -5}), []api.Value{num(1), num(2), ref(-5)}},
		{mutators(api.Mutator{State: api.AtTake}), []api.Value{ref(0)}},
		{mutators(api.Mutator{State: api.AtPush}), []api.Value{{}}},
		{mutators(api.Mutator{State: api.AtStore}), []api.Value{ref(0), {}}},
		{mutators(writer(3, 0, ref(3), ref(3), ref(3))), []api.Value{ref(3), ref(3), ref(3), ref(3)}},
		{
			mutators(api.Mutator{Stack: values(num(1)), State: api.AtPush, Val: odd}, api.Mutator{State: api.AtTake, Obj: 2, Val: num(9)}, api.Mutator{Stack: values(num(3))}, writer(5, 9, num(6), num(4)), api.Mutator{Stack: values(num(7), num(8))}),
			[]api.Value{num(1), odd, ref(2), num(3), num(4), ref(5), num(6), num(7), num(8)},
		},
	} {
		if l := snap.Held(x.ms); !slices.Equal(l, x.want) {
			t.Errorf("Held(%+v): %v, not %v", x.ms, l, x.want)
		}
	}
}

// TestHeldByMany is of P18.1: as many mutators and values as there may be, and more of both.
func TestHeldByMany(t *testing.T) {
	for _, n := range []int{1, 2, api.MaxMutators, api.MaxMutators + 1, 60} {
		for _, slots := range []int{1, api.MaxRoots, api.MaxRoots + 1, 40} {
			var ms []api.Mutator
			for i := range n {
				var l []api.Value
				for j := range slots {
					l = append(l, num(100*i+j))
				}
				ms = append(ms, writer(4*i, 1, num(-i), l...))
			}
			mustTell(t, testheap.Mixed(), mutators(ms...))
		}
	}
}

// pendingRows are what writes to objects of Mixed take away, by hand.
var pendingRows = []struct {
	obj, field int
	want       api.Value
}{
	{0, 0, ref(64)}, {0, 1, api.Value{}}, {0, -1, api.Value{}}, {2, 0, ref(0)}, {4, 0, api.Value{}}, {8, 0, ref(8)}, {10, 0, ref(0)},
	{24, 0, api.Value{}}, {24, 1, num(81)}, {24, 2, num(2)}, {24, 5, api.Value{}}, {24, 6, api.Value{}}, {64, 0, ref(68)}, {64, 1, ref(63)}, {64, 2, num(64)}, {64, 3, api.Value{}},
	{68, 0, ref(64)}, {68, 1, api.Value{}}, {128, 0, ref(144)}, {128, 3, num(1)}, {128, 14, api.Value{}}, {144, 14, api.Value{}},
	{6, 0, api.Value{}}, {32, 0, api.Value{}}, {65, 0, api.Value{}}, {92, 0, api.Value{}}, {112, 0, api.Value{}}, {120, 0, api.Value{}}, {-1, 0, api.Value{}}, {160, 0, api.Value{}},
}

// TestPending is of P18.1: worked out by hand, of white and black objects, in each sense; what is written counts for nothing.
func TestPending(t *testing.T) {
	for _, sense := range []bool{true, false} {
		h := testheap.Mixed()
		h.Sense = sense
		var ms []api.Mutator
		var all []api.Value
		for _, x := range pendingRows {
			for _, v := range []api.Value{{}, num(4), ref(64), ref(x.obj)} {
				m := writer(x.obj, x.field, v, num(3))
				if l := snap.Pending(h, mutators(m)); !slices.Equal(l, []api.Value{x.want}) {
					t.Errorf("of the field %d of %d: %v, not %v", x.field, x.obj, l, x.want)
				}
				ms, all = append(ms, api.Mutator{Stack: values(ref(0)), State: api.AtTake, Obj: 64}, m), append(all, x.want)
			}
		}
		if l := snap.Pending(h, ms); !slices.Equal(l, all) {
			t.Errorf("of all of them: %v, not %v", l, all)
		}
	}
}

// TestPendingByTheFieldAlone is of P18.1: which field it is, B tells; the operation's kind, A and C count for nothing.
func TestPendingByTheFieldAlone(t *testing.T) {
	for _, n := range append([]int{0, 1, 2, 3, 6}, testheap.Far()...) {
		for i, want := range []api.Value{ref(68), ref(63), num(64), {}} {
			m := writer(64, i, num(0))
			m.Op.Kind, m.Op.A, m.Op.C = n, n, n
			if l := snap.Pending(testheap.Mixed(), []api.Mutator{m}); !slices.Equal(l, []api.Value{want}) {
				t.Errorf("Pending(.., %+v): %v, not %v", m, l, want)
			}
		}
	}
}

// TestPendingOfNothing is of P18.1: no mutators, such as have no pending write, and writes to what isn't there.
func TestPendingOfNothing(t *testing.T) {
	h := testheap.Mixed()
	for _, ms := range [][]api.Mutator{nil, {}, mutators(), mutators(api.Mutator{}, api.Mutator{State: api.AtClaim}, api.Mutator{State: api.AtTake}, api.Mutator{State: api.AtPush, Val: ref(64)})} {
		if l := snap.Pending(h, ms); len(l) != 0 {
			t.Errorf("Pending(.., %+v): %v", ms, l)
		}
	}
	for _, n := range append(testheap.MixedNoObjects(), testheap.Far()...) {
		ms := mutators(writer(n, 0, ref(0)), writer(n, n, ref(0)), writer(0, 0, ref(0)))
		if l := snap.Pending(h, ms); !slices.Equal(l, []api.Value{{}, {}, ref(64)}) {
			t.Errorf("Pending(.., %+v): %v", ms, l)
		}
	}
	for _, n := range testheap.Far() {
		ms := mutators(writer(0, n, ref(0)), writer(144, n, ref(0)))
		if l := snap.Pending(h, ms); !slices.Equal(l, []api.Value{{}, {}}) {
			t.Errorf("Pending(.., %+v): %v", ms, l)
		}
	}
}

// TestEachMoment is of P18.1 and P18.2: of heaps of any words, and mutators in the midst of anything.
func TestEachMoment(t *testing.T) {
	for seed := range 1000 {
		h, ms := anyMoment(seed)
		mustTell(t, h, ms)
		mustBegin(t, api.Conf{Grey: seed % 17, Barrier: seed / 17 % 17}, h, ms)
	}
}

// TestBegin is of P18.2: worked out by hand: all that mutators hold stands ahead of all that is taken away.
func TestBegin(t *testing.T) {
	h := testheap.Mixed()
	ms := mutators(writer(64, 0, num(6), ref(8)), api.Mutator{Stack: values(num(3)), State: api.AtTake, Obj: 2}, writer(68, 0, ref(96)), writer(0, 5, ref(0)), api.Mutator{State: api.AtPush, Val: ref(24)})
	g, m := mustBegin(t, api.Conf{Grey: 5, Barrier: 3}, h, ms)
	roots := []api.Value{ref(8), ref(64), num(6), num(3), ref(2), ref(68), ref(96), ref(0), ref(0), ref(24), ref(68), ref(64), {}}
	if !slices.Equal(m.Roots, roots) {
		t.Errorf("Roots: %v, not %v", m.Roots, roots)
	}
	if g.Sense || !h.Sense || len(m.Barriers) != 5 || m.Grey.Room != 5 || m.Barriers[4].Room != 3 {
		t.Errorf("Begin: %t, %+v", g.Sense, m)
	}
}

// TestBegunBlackIsWhite is of P18.2: all objects that were black are white, and the other way round.
func TestBegunBlackIsWhite(t *testing.T) {
	for _, sense := range []bool{true, false} {
		h := testheap.Mixed()
		h.Sense = sense
		g, _ := mustBegin(t, api.Conf{}, h, nil)
		for _, at := range object.List(h) {
			if object.Black(g, at) == object.Black(h, at) {
				t.Errorf("the object at %d: %t, as it was", at, object.Black(g, at))
			}
		}
		if !slices.Equal(object.List(g), object.List(h)) {
			t.Errorf("objects: %v, not %v", object.List(g), object.List(h))
		}
		again, _ := mustBegin(t, api.Conf{}, g, nil)
		if !testheap.Same(again, h) {
			t.Errorf("turned twice: %+v, not %+v", again, h)
		}
	}
	h, _ := heap.New(3)
	h, _ = heap.Open(h, 1, 2)
	for range 4 {
		h, _, _ = heap.Lay(h, 1, 7)
	}
	if g, _ := snap.Begin(api.Conf{}, h, nil); len(reach.Black(h)) != 4 || len(reach.Black(g)) != 0 {
		t.Errorf("black ahead of it: %v, and behind it: %v", reach.Black(h), reach.Black(g))
	}
}

// TestBegunRooms is of P18.2: each room that may be, and a row for each mutator there is, however many Conf tells of.
func TestBegunRooms(t *testing.T) {
	h := testheap.Mixed()
	for room := range api.MaxGrey + 1 {
		for barrier := range api.MaxGrey + 1 {
			for _, n := range []int{0, 1, 2, 5, api.MaxMutators, api.MaxMutators + 4} {
				ms := mutators(slices.Repeat([]api.Mutator{writer(0, 0, num(2))}, n)...)
				mustBegin(t, api.Conf{Grey: room, Barrier: barrier}, h, ms)
				mustBegin(t, api.Conf{Pages: 3, Mutators: n + 1, Roots: 4, Grey: room, Barrier: barrier}, h, ms)
			}
		}
	}
	for _, n := range testheap.Far() {
		mustBegin(t, api.Conf{Pages: n, Mutators: n, Roots: n, Grey: 16, Barrier: 8}, h, mutators(writer(0, 0, num(2))))
	}
}

// TestWrongRooms is of P1: rooms that may not be let Begin end all the same.
func TestWrongRooms(t *testing.T) {
	for _, n := range append([]int{17, 18, 256 + 1}, testheap.Far()...) {
		ms := mutators(writer(0, 0, num(2)), api.Mutator{})
		snap.Begin(api.Conf{Grey: n, Barrier: 1}, testheap.Mixed(), ms)
		snap.Begin(api.Conf{Grey: 1, Barrier: n}, testheap.Mixed(), ms)
		snap.Begin(api.Conf{Grey: n, Barrier: n}, testheap.Mixed(), nil)
	}
}

// mustReachTheSame fails, if from the roots anything else is reached than from what mutators hold.
func mustReachTheSame(t *testing.T, h api.Heap, ms []api.Mutator) {
	t.Helper()
	g, m := snap.Begin(api.Conf{Grey: 2, Barrier: 1}, h, ms)
	want := testheap.Reached(h, testheap.HeldBy(ms))
	if got := reach.From(g, m.Roots); !slices.Equal(got, want) {
		t.Fatalf("from the roots %v: %v; not %v", m.Roots, got, want)
	}
	if got := reach.From(h, snap.Held(ms)); !slices.Equal(got, want) {
		t.Fatalf("from what is held: %v; not %v", got, want)
	}
}

// TestReachedFromRoots is of P18.3: by hand, and of heaps of any words.
func TestReachedFromRoots(t *testing.T) {
	for _, x := range pendingRows {
		mustReachTheSame(t, testheap.Mixed(), mutators(writer(x.obj, x.field, num(3))))
		mustReachTheSame(t, testheap.Mixed(), mutators(api.Mutator{Stack: values(ref(x.obj))}, api.Mutator{State: api.AtPush, Val: ref(x.obj)}))
	}
	for seed := range 1000 {
		h, ms := anyMoment(seed)
		mustReachTheSame(t, h, ms)
	}
}

// TestMarkedFromRoots is of P18.3: begun, and marked to the end, just what is reached from what mutators hold is black.
func TestMarkedFromRoots(t *testing.T) {
	for seed := range 200 {
		number := testheap.Numbers(seed)
		h := testheap.AnyApart(number, 1+seed%6)
		// All are white; a cycle begins where all are black.
		h.Sense = !h.Sense
		ms := testheap.AnyMutators(number, h)
		g, m := mustBegin(t, api.Conf{Grey: seed % 4, Barrier: 1}, h, ms)
		for done := false; !done; {
			g, m, done = mark.Step(g, m)
		}
		if got, want := reach.Black(g), testheap.Reached(h, testheap.HeldBy(ms)); !slices.Equal(got, want) {
			t.Fatalf("seed %d: %v are black; not %v", seed, got, want)
		}
	}
}

// TestWrittenAway is of P18.3: what a pending write takes away is marked, though the write comes ahead of the marker.
func TestWrittenAway(t *testing.T) {
	h, _ := heap.New(1)
	h, _ = heap.Open(h, 0, 0)
	h, a, _ := heap.Lay(h, 0, 1)
	h, b, _ := heap.Lay(h, 0, 1)
	h, _ = object.Set(h, a, 0, ref(b))
	g, m := snap.Begin(api.Conf{Grey: 1, Barrier: 0}, h, []api.Mutator{writer(a, 0, num(1), ref(a))})
	g, _ = object.Set(g, a, 0, num(1))
	for done := false; !done; {
		g, m, done = mark.Step(g, m)
	}
	if l := reach.Black(g); !slices.Equal(l, []int{a, b}) {
		t.Errorf("black: %v", l)
	}
}

// valuesOf answers what the calls that answer values answer of a moment, one list for each.
func valuesOf(h api.Heap, ms []api.Mutator) [][]api.Value {
	all := [][]api.Value{snap.Held(ms), snap.Pending(h, ms)}
	for _, m := range ms {
		all = append(all, snap.Registers(m))
	}
	return all
}

// mustBeNew fails, if what is answered of a moment shares memory with it, or with another answer. It writes over the moment.
func mustBeNew(t *testing.T, c api.Conf, h api.Heap, ms []api.Mutator) {
	t.Helper()
	was, heapWas := testheap.KeptMutators(ms), testheap.Kept(h)
	lists, again := valuesOf(h, ms), valuesOf(h, ms)
	g1, m1 := snap.Begin(c, h, ms)
	g2, m2 := snap.Begin(c, h, ms)
	wantHeap, wantMarker, want := testheap.Kept(g2), testheap.KeptMarker(m2), valuesOf(heapWas, was)

	for _, l := range lists {
		testheap.ScrawlValues(l)
	}
	testheap.Scrawl(g1)
	testheap.ScrawlOtherwise(m1, api.Marker{})
	mustStay(t, h, heapWas, ms, was)
	testheap.Scrawl(h)
	testheap.ScrawlMutators(ms)
	if !testheap.Same(g2, wantHeap) || !testheap.SameMarker(m2, wantMarker) {
		t.Fatalf("another answer: %+v, %+v; that was %+v, %+v", g2, m2, wantHeap, wantMarker)
	}
	for i, l := range again {
		if !slices.Equal(l, want[i]) {
			t.Fatalf("another answer: %v; that was %v", l, want[i])
		}
	}
}

// TestMemory is of P18.4: of moments of all kinds, and of a lone mutator with a stack alone, whose values are all there are.
func TestMemory(t *testing.T) {
	for seed := range 1000 {
		h, ms := anyMoment(seed)
		mustBeNew(t, api.Conf{Grey: seed % 17, Barrier: seed % 9}, h, ms)
	}
	for n := range 10 {
		mustBeNew(t, api.Conf{Grey: 1, Barrier: 1}, testheap.Mixed(), mutators(api.Mutator{Stack: values(slices.Repeat([]api.Value{num(4)}, n)...)}))
		mustBeNew(t, api.Conf{Grey: 1, Barrier: 1}, testheap.Mixed(), mutators(slices.Repeat([]api.Mutator{{}}, n)...))
	}
}

// TestRowsMemory is of P18.4: the rows of a marker that begins are each of its own, however they grow.
func TestRowsMemory(t *testing.T) {
	h, _ := heap.New(1)
	h, _ = heap.Open(h, 0, 0)
	for range 4 {
		h, _, _ = heap.Lay(h, 0, 1)
	}
	g, m := snap.Begin(api.Conf{Grey: 2, Barrier: 2}, h, make([]api.Mutator, 3))
	for who := range m.Barriers {
		g, m = mark.Note(g, m, who, ref(2*who))
	}
	for who, row := range m.Barriers {
		if !slices.Equal(row.Items, []int{2 * who}) {
			t.Errorf("the row %d: %v", who, row.Items)
		}
	}
	if len(m.Grey.Items) != 0 {
		t.Errorf("the marker's row: %v", m.Grey.Items)
	}
}

// TestNoneIsKept is of P18.4: what is answered stays, when others come.
func TestNoneIsKept(t *testing.T) {
	h, ms := anyMoment(5)
	lists := valuesOf(h, ms)
	g, m := snap.Begin(api.Conf{Grey: 2, Barrier: 2}, h, ms)
	wantHeap, wantMarker, want := testheap.Kept(g), testheap.KeptMarker(m), valuesOf(h, ms)
	for seed := range 20 {
		other, others := anyMoment(seed)
		valuesOf(other, others)
		snap.Begin(api.Conf{}, other, others)
	}
	if !testheap.Untouched(g, wantHeap) || !testheap.UntouchedMarker(m, wantMarker) || !slices.EqualFunc(lists, want, slices.Equal) {
		t.Errorf("%+v, %+v, %v; that was %+v, %+v, %v", g, m, lists, wantHeap, wantMarker, want)
	}
}

// TestFieldsOfFarValues is of P18.1: fields whose words are the greatest there are.
func TestFieldsOfFarValues(t *testing.T) {
	h := testheap.Blank(api.Span{State: api.SpanClean, Class: 1})
	testheap.Write(h, 0, 147, math.MaxUint64, math.MaxUint64-1, 1<<63)
	for i, want := range []api.Value{num(math.MaxInt), ref(math.MaxInt - 1), ref(1<<62 - 1)} {
		ms := mutators(writer(0, i, num(0)))
		if l := snap.Pending(h, ms); !slices.Equal(l, []api.Value{want}) {
			t.Errorf("the field %d: %v, not %v", i, l, want)
		}
		mustBegin(t, api.Conf{}, h, ms)
	}
}

// FuzzSnap is of all promises, of whatever words and mutators come: two bytes are a word.
func FuzzSnap(f *testing.F) {
	f.Add([]byte{1, 2, 0}, []byte{0, 129, 0, 66, 0, 129, 0, 4}, 3, true)
	f.Add([]byte{8, 5, 4, 7}, []byte{0, 191, 0, 2, 0, 66, 0, 129, 1, 2}, 7, true)
	f.Add([]byte{}, []byte{}, 16, false)
	f.Fuzz(func(t *testing.T, pages, words []byte, seed int, sense bool) {
		h := testheap.OfBytes(pages, words)
		h.Sense = sense
		number := testheap.Numbers(seed)
		ms := testheap.AnyMutators(number, h)
		c := api.Conf{Grey: number(17), Barrier: number(17)}
		mustTell(t, h, ms)
		mustBegin(t, c, h, ms)
		mustReachTheSame(t, h, ms)
		mustBeNew(t, c, h, ms)
	})
}
