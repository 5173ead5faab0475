package cycle_test

import (
	"math"
	"slices"
	"testing"

	"flotsam/api"
	"flotsam/cycle"
	"flotsam/heap"
	"flotsam/object"
	"flotsam/testheap"
)

// cache is a mutator's.
type cache = [api.Classes]int

// no is a cache that has no page.
var no = cache{-1, -1, -1, -1}

func ref(n int) api.Value { return api.Value{Kind: api.Ref, N: n} }

func num(n int) api.Value { return api.Value{Kind: api.Int, N: n} }

// resting answers a mutator at rest that holds those values, and has no page.
func resting(stack ...api.Value) api.Mutator {
	return api.Mutator{Stack: testheap.WithRoom(stack, ref(0)), Cache: no}
}

// worldOf answers a world of a heap and mutators, of two slots, room for one grey object, and one of a barrier, in the phase
// Idle.
func worldOf(h api.Heap, ms ...api.Mutator) api.World {
	return api.World{
		Conf:     api.Conf{Pages: len(h.Spans), Mutators: len(ms), Roots: 2, Grey: 1, Barrier: 1},
		Heap:     h,
		Mutators: testheap.WithRoom(ms, api.Mutator{Stack: []api.Value{ref(0)}, State: api.AtTake}),
		Reports:  testheap.WithRoom(nil, api.Report{Cycle: 9, Live: 9}),
	}
}

// newWorld answers a world of so many free pages and mutators that hold nothing.
func newWorld(pages, mutators int) api.World {
	h, _ := heap.New(pages)
	return worldOf(h, slices.Repeat([]api.Mutator{resting()}, mutators)...)
}

// call is one of the two turns.
type call func(api.World) (api.World, int)

// mustTurn fails, if a turn answers anything else than is asked for, or changes what it is handed.
func mustTurn(t *testing.T, do call, w, want api.World, event int) (api.World, int) {
	t.Helper()
	was := testheap.KeptWorld(w)
	got, what := do(w)
	if what != event || !testheap.SameWorld(got, want) {
		t.Fatalf("of %+v: %+v, %d; not %+v, %d", was, got, what, want, event)
	}
	if !testheap.UntouchedWorld(w, was) {
		t.Fatalf("handed in: %+v; that was %+v", w, was)
	}
	return got, what
}

// mustMark fails, if the marker's turn answers anything else than the chapter tells, or changes what it is handed.
func mustMark(t *testing.T, w api.World) (api.World, int) {
	t.Helper()
	want, event := testheap.MarkerTurn(w)
	return mustTurn(t, cycle.Marker, w, want, event)
}

// mustSweep fails, if the sweeper's turn answers anything else than the chapter tells, or changes what it is handed.
func mustSweep(t *testing.T, w api.World) (api.World, int) {
	t.Helper()
	want, event := testheap.SweeperTurn(w)
	return mustTurn(t, cycle.Sweeper, w, want, event)
}

// mustTell fails, if Tell answers another report, or changes what it is handed.
func mustTell(t *testing.T, w api.World, want api.Report) {
	t.Helper()
	was := testheap.KeptWorld(w)
	if got := cycle.Tell(w); got != want {
		t.Fatalf("Tell(%+v): %+v, not %+v", was, got, want)
	}
	if !testheap.UntouchedWorld(w, was) {
		t.Fatalf("Tell of: %+v; that was %+v", w, was)
	}
}

// mustHaveForm fails, if Form tells otherwise than that, or changes what it is handed.
func mustHaveForm(t *testing.T, w api.World, want bool) {
	t.Helper()
	was := testheap.KeptWorld(w)
	if got := cycle.Form(w); got != want {
		t.Errorf("Form(%+v): %t", was, got)
	}
	if !testheap.UntouchedWorld(w, was) {
		t.Errorf("Form of: %+v; that was %+v", w, was)
	}
}

// mustEvents fails, if the marker's turns, one behind the other, bring other events than those.
func mustEvents(t *testing.T, w api.World, events ...int) api.World {
	t.Helper()
	for i, event := range events {
		var what int
		if w, what = mustMark(t, w); what != event {
			t.Fatalf("the turn %d: %d, not %d: %+v", i, what, event, w)
		}
	}
	return w
}

// TestExample is of P20.2: the chapter's example.
func TestExample(t *testing.T) {
	w := newWorld(1, 1)
	w.Want = true
	w = mustEvents(t, w, api.EvSnapshot, api.EvMarked, api.EvSwept, api.EvNothing)
	if want := (api.Report{Cycle: 1, Free: 32}); !slices.Equal(w.Reports, []api.Report{want}) || w.Cycle != 1 || w.Want || w.Phase != api.Idle {
		t.Errorf("%+v", w)
	}
}

// TestExamplesOfTheWhole is of P20.2: the document's examples from the fifth on.
func TestExamplesOfTheWhole(t *testing.T) {
	h, _ := heap.New(1)
	h, _ = heap.Open(h, 0, 0)
	h, a, _ := heap.Lay(h, 0, 1)
	h, b, _ := heap.Lay(h, 0, 1)
	h, _ = object.Set(h, a, 0, ref(b))
	w := worldOf(h, api.Mutator{Stack: []api.Value{ref(a)}, Cache: cache{0, -1, -1, -1}})
	w.Want = true
	w = mustEvents(t, w, api.EvSnapshot)
	if !slices.Equal(w.Marker.Roots, []api.Value{ref(0)}) {
		t.Errorf("roots: %v", w.Marker.Roots)
	}
	w = mustEvents(t, w, api.EvWork, api.EvWork, api.EvWork, api.EvWork, api.EvWork, api.EvMarked)
	if w.Reports[0] != (api.Report{Cycle: 1, Free: 28, Live: 4}) {
		t.Errorf("the report: %+v", w.Reports[0])
	}
	w, what := mustSweep(t, w)
	if what != api.EvSwept {
		t.Errorf("swept: %d", what)
	}
	w.Mutators[0].Stack, w.Want = nil, true
	w = mustEvents(t, w, api.EvSnapshot, api.EvMarked, api.EvSwept)
	if len(w.Reports) != 2 || w.Reports[1] != (api.Report{Cycle: 2, Free: 28, Freed: 4}) || heap.Used(w.Heap) != 0 {
		t.Errorf("the reports: %+v", w.Reports)
	}
}

// TestMay is of P20.1: each configuration that may be, and its neighbours.
func TestMay(t *testing.T) {
	for pages := -1; pages <= 18; pages++ {
		for mutators := -1; mutators <= 10; mutators++ {
			for roots := -1; roots <= 10; roots++ {
				for grey := -2; grey <= 18; grey++ {
					for barrier := -2; barrier <= 10; barrier++ {
						c := api.Conf{Pages: pages, Mutators: mutators, Roots: roots, Grey: grey, Barrier: barrier}
						want := pages >= 1 && pages <= 16 && mutators >= 1 && mutators <= 8 && roots >= 1 && roots <= 8 && grey >= 0 && grey <= 16 && barrier >= 0 && barrier <= 8
						if cycle.May(c) != want {
							t.Fatalf("May(%+v): %t", c, !want)
						}
					}
				}
			}
		}
	}
}

// wrongConfs are configurations that may not be, as in one thing another number stands than in c.
func wrongConfs(c api.Conf) []api.Conf {
	var l []api.Conf
	for _, n := range append([]int{17, 18, 256 + 1, 256 + 8}, testheap.Far()...) {
		pages, mutators, roots, grey, barrier := c, c, c, c, c
		pages.Pages, mutators.Mutators, roots.Roots, grey.Grey, barrier.Barrier = n, n, n, n, n
		l = append(l, pages, mutators, roots, grey, barrier)
	}
	none, nobody, stackless, wide := c, c, c, c
	none.Pages, nobody.Mutators, stackless.Roots, wide.Barrier = 0, 0, 0, 9
	return append(l, none, nobody, stackless, wide)
}

// TestMayNot is of P20.1: numbers far from those that may be, each alone.
func TestMayNot(t *testing.T) {
	for _, c := range []api.Conf{{Pages: 1, Mutators: 1, Roots: 1}, {Pages: 16, Mutators: 8, Roots: 8, Grey: 16, Barrier: 8}} {
		if !cycle.May(c) {
			t.Errorf("May(%+v): false", c)
		}
		for _, wrong := range wrongConfs(c) {
			if cycle.May(wrong) {
				t.Errorf("May(%+v): true", wrong)
			}
		}
	}
	if cycle.May(api.Conf{}) {
		t.Error("May of a zero one: true")
	}
}

// marking answers a world in the phase Mark, of Mixed's heap and three mutators, that has much to be done.
func marking() api.World {
	w := worldOf(testheap.Mixed(), resting(ref(0), num(3)), resting(), resting(ref(-7)))
	w.Mutators[0].Cache, w.Mutators[2].Cache = cache{0, -1, 3, -1}, cache{-1, 2, -1, 4}
	w.Phase, w.Cycle = api.Mark, 3
	w.Marker = api.Marker{
		Grey:     testheap.Row(2, 64),
		Barriers: testheap.WithRoom([]api.Grey{testheap.Row(1), testheap.Row(0), testheap.Row(16, 4, 300)}, testheap.Row(17)),
		Roots:    testheap.RefsTo(2, -9),
		Obj:      64,
		Field:    2,
		Cursor:   160,
		Over:     true,
	}
	return w
}

// TestForm is of P20.1: worlds that have their form: new ones, such as are full of what may be, and of all kinds.
func TestForm(t *testing.T) {
	for pages := 1; pages <= api.MaxPages; pages++ {
		for mutators := 1; mutators <= api.MaxMutators; mutators++ {
			mustHaveForm(t, newWorld(pages, mutators), true)
		}
	}
	mustHaveForm(t, marking(), true)
	for phase := range 3 {
		w := marking()
		w.Phase, w.Cycle, w.Want, w.Reports = phase, -5, true, []api.Report{{Cycle: -3}}
		w.Mutators[1] = api.Mutator{State: 77, Op: api.Op{Kind: -9}, Obj: -8, Val: api.Value{Kind: 99}, Cache: no}
		mustHaveForm(t, w, true)
	}
	for seed := range 1000 {
		mustHaveForm(t, testheap.AnyWorld(testheap.Numbers(seed), 1+seed%16), true)
	}
}

// TestWrongConf is of P20.1: a configuration that may not be, and one that may, but isn't this world's.
func TestWrongConf(t *testing.T) {
	w := marking()
	for _, c := range wrongConfs(w.Conf) {
		w := marking()
		w.Conf = c
		mustHaveForm(t, w, false)
	}
	for n := 1; n <= api.MaxPages; n++ {
		w.Conf.Pages = n
		mustHaveForm(t, w, n == 5)
	}
	w = marking()
	for n := 1; n <= api.MaxMutators; n++ {
		w.Conf.Mutators = n
		mustHaveForm(t, w, n == 3)
	}
	w = marking()
	for n := 1; n <= api.MaxRoots; n++ {
		w.Conf.Roots = n
		mustHaveForm(t, w, n >= 2)
	}
	// The rooms of a marker's rows are its own.
	w = marking()
	for n := range api.MaxGrey + 1 {
		w.Conf.Grey, w.Conf.Barrier = n, n/2
		mustHaveForm(t, w, true)
	}
}

// TestWrongHeap is of P20.1: a heap that hasn't its form, or another number of pages than is told.
func TestWrongHeap(t *testing.T) {
	for i, change := range []func(h *api.Heap){
		func(h *api.Heap) { *h = api.Heap{} },
		func(h *api.Heap) { h.Words = h.Words[:159] },
		func(h *api.Heap) { h.Words = append(h.Words, 0) },
		func(h *api.Heap) { h.Words = nil },
		func(h *api.Heap) { h.Spans[1].Class = 1 },
		func(h *api.Heap) { h.Spans[1].State = 3 },
		func(h *api.Heap) { h.Spans[4].Free = 4 },
		func(h *api.Heap) { h.Spans[4].Class = 4 },
		func(h *api.Heap) { h.Words, h.Spans = h.Words[:128], h.Spans[:4] },
		func(h *api.Heap) {
			h.Words, h.Spans = append(h.Words, make([]uint64, 32)...), append(h.Spans, api.Span{})
		},
	} {
		for phase := range 3 {
			w := marking()
			w.Phase, w.Mutators[2].Cache = phase, no
			mustHaveForm(t, w, true)
			change(&w.Heap)
			if cycle.Form(w) {
				t.Errorf("the change %d: true", i)
			}
		}
	}
	// So many pages may not be, though there are as many as are told.
	w := worldOf(testheap.Blank(make([]api.Span, 17)...), resting())
	mustHaveForm(t, w, false)
	w = worldOf(api.Heap{}, resting())
	mustHaveForm(t, w, false)
}

// TestWrongMutators is of P20.1: too many of them, too few, stacks that are too high, caches that aren't right.
func TestWrongMutators(t *testing.T) {
	for phase := range 3 {
		for i, change := range []func(ms []api.Mutator) []api.Mutator{
			func(ms []api.Mutator) []api.Mutator { return nil },
			func(ms []api.Mutator) []api.Mutator { return ms[:2] },
			func(ms []api.Mutator) []api.Mutator { return append(ms[:3:3], resting()) },
			func(ms []api.Mutator) []api.Mutator { ms[0].Stack = testheap.RefsTo(0, 0, 0); return ms },
			func(ms []api.Mutator) []api.Mutator { ms[2].Stack = make([]api.Value, 9); return ms },
			func(ms []api.Mutator) []api.Mutator { ms[1].Cache[1] = 2; return ms },
			func(ms []api.Mutator) []api.Mutator { ms[0].Cache[1] = 0; return ms },
			func(ms []api.Mutator) []api.Mutator { ms[1].Cache[0] = 1; return ms },
			func(ms []api.Mutator) []api.Mutator { ms[2].Cache[3] = 5; return ms },
			func(ms []api.Mutator) []api.Mutator { ms[2].Cache[3] = -2; return ms },
			func(ms []api.Mutator) []api.Mutator { ms[1].Cache = cache{}; return ms },
		} {
			w := marking()
			w.Phase = phase
			if w.Mutators = change(w.Mutators); cycle.Form(w) {
				t.Errorf("the change %d: true", i)
			}
		}
		for _, page := range testheap.Far() {
			for who := range 3 {
				for class := range api.Classes {
					w := marking()
					w.Phase, w.Mutators[who].Cache[class] = phase, page
					mustHaveForm(t, w, page == -1)
				}
			}
		}
	}
	for roots := 1; roots <= api.MaxRoots; roots++ {
		for n := range api.MaxRoots + 3 {
			for who := range 3 {
				w := newWorld(2, 3)
				w.Conf.Roots, w.Mutators[who].Stack = roots, testheap.WithRoom(make([]api.Value, n), num(1))
				mustHaveForm(t, w, n <= roots)
			}
		}
	}
}

// TestWrongPhase is of P20.1: numbers that are no phase's.
func TestWrongPhase(t *testing.T) {
	for _, n := range append([]int{3, 4, 256, 256 + 1, 256 + 2}, testheap.Far()...) {
		w := marking()
		w.Phase = n
		mustHaveForm(t, w, false)
		w = newWorld(1, 1)
		w.Phase = n
		mustHaveForm(t, w, false)
	}
}

// TestWrongMarker is of P20.1: a marker that isn't right, or hasn't a row for each mutator: in the phase Mark alone it counts.
func TestWrongMarker(t *testing.T) {
	for i, change := range []func(m *api.Marker){
		func(m *api.Marker) { *m = api.Marker{} },
		func(m *api.Marker) { m.Grey.Room = 17 },
		func(m *api.Marker) { m.Grey.Room = 0 },
		func(m *api.Marker) { m.Grey.Items[0] = -1 },
		func(m *api.Marker) { m.Barriers[2].Room = 1 },
		func(m *api.Marker) { m.Barriers[0].Room = -1 },
		func(m *api.Marker) { m.Barriers = nil },
		func(m *api.Marker) { m.Barriers = m.Barriers[:2] },
		func(m *api.Marker) { m.Barriers = append(m.Barriers[:3:3], testheap.Row(1)) },
		func(m *api.Marker) { m.Obj = 65 },
		func(m *api.Marker) { m.Obj = -1 },
		func(m *api.Marker) { m.Field = 3 },
		func(m *api.Marker) { m.Field = -1 },
		func(m *api.Marker) { m.Cursor = -2 },
		func(m *api.Marker) { m.Cursor = 161 },
	} {
		for phase := range 3 {
			w := marking()
			w.Phase = phase
			if change(&w.Marker); cycle.Form(w) != (phase != api.Mark) {
				t.Errorf("the change %d, in the phase %d: %t", i, phase, phase == api.Mark)
			}
		}
	}
}

// TestCaches is of P20.1: each mutator's, in order, whatever they are; none of nobody.
func TestCaches(t *testing.T) {
	for n := range 12 {
		w, want := worldOf(testheap.Mixed()), []cache(nil)
		for i := range n {
			want = append(want, cache{i, -i, 7 * i, math.MaxInt - i})
			w.Mutators = append(w.Mutators, api.Mutator{State: i, Cache: want[i]})
		}
		if got := cycle.Caches(w); !slices.Equal(got, want) {
			t.Errorf("Caches: %v, not %v", got, want)
		}
	}
	for seed := range 200 {
		w := testheap.AnyWorld(testheap.Numbers(seed), 1+seed%16)
		if got := cycle.Caches(w); !slices.Equal(got, testheap.CachesOf(w)) {
			t.Errorf("Caches(%+v): %v", w, got)
		}
	}
}

// tellRows are reports of Mixed, by hand, of what is held beside it: 86 of its 160 words are used, 34 are those of black
// objects, 58 those of white ones, which are black in the other sense.
var tellRows = []struct {
	m     api.Mutator
	words int
}{
	{resting(), 0},
	{resting(num(0), api.Value{}), 0},
	{resting(ref(1), ref(160)), 0},
	{resting(ref(64)), 8},
	{resting(ref(0)), 2 + 8},
	{resting(ref(2), ref(2)), 2 + 2 + 8},
	{resting(ref(10), ref(144)), 4 + 2 + 8 + 16},
	{resting(ref(128)), 16 + 16},
	{api.Mutator{State: api.AtTake, Obj: 68, Cache: no}, 8},
	{api.Mutator{State: api.AtPush, Obj: 68, Val: ref(24), Cache: no}, 8},
	{api.Mutator{State: api.AtStore, Obj: 68, Val: ref(24), Cache: no}, 8 + 8},
	{api.Mutator{State: api.AtClaim, Obj: 68, Val: ref(24), Cache: no}, 0},
	{api.Mutator{State: api.AtRest, Obj: 68, Val: ref(24), Cache: no}, 0},
	{api.Mutator{Stack: []api.Value{ref(96), ref(8)}, State: api.AtStore, Obj: 104, Val: ref(4), Cache: no}, 8 + 2 + 8 + 2},
}

// TestTell is of P20.1: worked out by hand, in each phase; what is held alone may be more than what is black.
func TestTell(t *testing.T) {
	for phase := range 3 {
		for _, x := range tellRows {
			for _, ms := range [][]api.Mutator{{x.m}, {resting(), x.m}, {x.m, x.m, resting(num(4))}} {
				w := worldOf(testheap.Mixed(), ms...)
				w.Phase, w.Cycle, w.Reports = phase, 4+len(ms), []api.Report{{Cycle: 2, Live: 3}}
				mustTell(t, w, api.Report{Cycle: 4 + len(ms), Free: 74, Live: 34, Floating: 34 - x.words, Freed: 52})
				w.Heap.Sense = false
				mustTell(t, w, api.Report{Cycle: 4 + len(ms), Free: 74, Live: 58, Floating: 58 - x.words, Freed: 28})
			}
		}
	}
	for pages := 1; pages <= api.MaxPages; pages++ {
		mustTell(t, newWorld(pages, 1), api.Report{Free: 32 * pages})
	}
}

// TestEachTell is of P20.1: of worlds of all kinds.
func TestEachTell(t *testing.T) {
	for seed := range 1000 {
		w := testheap.AnyWorld(testheap.Numbers(seed), 1+seed%16)
		mustTell(t, w, testheap.ReportOf(w))
	}
}

// TestNothingWanted is of P20.2: in the phase Idle nothing befalls, if no cycle is asked for, whatever else there is.
func TestNothingWanted(t *testing.T) {
	w := marking()
	w.Phase = api.Idle
	mustTurn(t, cycle.Marker, w, testheap.KeptWorld(w), api.EvNothing)
	w = newWorld(3, 2)
	mustTurn(t, cycle.Marker, w, testheap.KeptWorld(w), api.EvNothing)
}

// TestBegins is of P20.2: worked out by hand: what of a world is otherwise as a cycle begins, and what is as it was.
func TestBegins(t *testing.T) {
	w := worldOf(testheap.Mixed(), resting(ref(8), num(2)), api.Mutator{Stack: []api.Value{ref(4)}, State: api.AtStore, Op: api.Op{Kind: api.OpWrite, B: 1}, Obj: 64, Val: num(7), Cache: cache{-1, 2, -1, -1}})
	w.Conf.Grey, w.Conf.Barrier = 16, 0
	w.Want, w.Cycle, w.Marker = true, 1<<60-2, api.Marker{Grey: testheap.Row(3, 4), Roots: testheap.RefsTo(4), Obj: 7, Cursor: 3, Over: true}
	w.Reports = testheap.WithRoom([]api.Report{{Cycle: 6, Free: 8}}, api.Report{})
	want := testheap.KeptWorld(w)
	want.Heap.Sense, want.Want, want.Cycle, want.Phase = false, false, 1<<60-1, api.Mark
	want.Marker = api.Marker{Grey: api.Grey{Room: 16}, Barriers: make([]api.Grey, 2), Roots: []api.Value{ref(8), num(2), ref(4), ref(64), num(7), ref(63)}, Obj: -1, Cursor: -1}
	mustTurn(t, cycle.Marker, w, want, api.EvSnapshot)
}

// TestMarks is of P20.2: in the phase Mark all that is otherwise is the heap and the marker, whether a cycle is asked for or not.
func TestMarks(t *testing.T) {
	for _, isWanted := range []bool{true, false} {
		w := marking()
		w.Want = isWanted
		want := testheap.KeptWorld(w)
		// The last field of 64 is a number; then 64 is popped, and its first field leads to 68, which is black.
		want.Marker.Obj, want.Marker.Field = -1, 0
		w, _ = mustTurn(t, cycle.Marker, w, want, api.EvWork)
		want.Marker.Obj, want.Marker.Grey.Items = 64, nil
		w, _ = mustTurn(t, cycle.Marker, w, want, api.EvWork)
		want.Marker.Field = 1
		w, _ = mustTurn(t, cycle.Marker, w, want, api.EvWork)
		if w.Want != isWanted || len(w.Reports) != 0 {
			t.Errorf("%+v", w)
		}
	}
}

// TestMarked is of P20.2: worked out by hand: as marking is done, the report is told, and sweeping has begun.
func TestMarked(t *testing.T) {
	for _, isWanted := range []bool{true, false} {
		w := worldOf(testheap.Mixed(), resting(ref(64)), resting(ref(4)))
		w.Phase, w.Cycle, w.Want = api.Mark, 8, isWanted
		w.Marker = api.Marker{Grey: testheap.Row(5), Barriers: []api.Grey{testheap.Row(1), testheap.Row(2)}, Obj: -1, Cursor: -1}
		w.Reports = testheap.WithRoom([]api.Report{{Cycle: 6, Free: 8}, {Cycle: 3}}, api.Report{Cycle: 5})
		want := testheap.KeptWorld(w)
		want.Reports = []api.Report{{Cycle: 6, Free: 8}, {Cycle: 3}, {Cycle: 8, Free: 74, Live: 34, Floating: 34 - 8 - 2, Freed: 52}}
		want.Phase, want.Marker = api.Sweep, api.Marker{}
		want.Heap.Spans[0].State, want.Heap.Spans[3].State = api.SpanDirty, api.SpanDirty
		mustTurn(t, cycle.Marker, w, want, api.EvMarked)
	}
}

// sweeping answers a world in the phase Sweep of three dirty pages with free ones between, by hand: at 32 and 34 are a white
// and a black object, at 96 and 112 two white ones, at 160 a white one in a page that is a mutator's.
func sweeping() api.World {
	h := testheap.Blank(
		api.Span{}, api.Span{State: api.SpanDirty, Class: 0, Free: 0xfffc}, api.Span{State: api.SpanClean, Class: 1, Free: 0xff},
		api.Span{State: api.SpanDirty, Class: 3}, api.Span{}, api.Span{State: api.SpanDirty, Class: 2, Free: 0xe}, api.Span{},
	)
	h.Sense = true
	testheap.Write(h, 32, 129, 5)
	testheap.Write(h, 34, 193, testheap.RefTo(34))
	testheap.Write(h, 96, 177, testheap.RefTo(112))
	testheap.Write(h, 112, 176)
	testheap.Write(h, 160, 164, 1, 2, 3, 4)
	w := worldOf(h, resting(ref(34)), resting(), api.Mutator{Cache: cache{-1, 2, 5, -1}})
	w.Phase, w.Cycle = api.Sweep, 2
	return w
}

// TestSweeps is of P20.2: worked out by hand: page by page, the least first; the last one's turn ends the cycle, be it the
// marker's or the sweeper's.
func TestSweeps(t *testing.T) {
	for _, isWanted := range []bool{true, false} {
		for who := range 8 {
			w := sweeping()
			w.Want = isWanted
			want := testheap.KeptWorld(w)
			for page, x := range []struct {
				page, from, to int
				span           api.Span
				event          int
			}{
				{1, 32, 34, api.Span{State: api.SpanClean, Class: 0, Free: 0xfffd}, api.EvWork},
				{3, 96, 128, api.Span{}, api.EvWork},
				{5, 160, 168, api.Span{State: api.SpanClean, Class: 2, Free: 0xf}, api.EvSwept},
			} {
				clear(want.Heap.Words[x.from:x.to])
				want.Heap.Spans[x.page] = x.span
				if x.event == api.EvSwept {
					want.Phase = api.Idle
				}
				do := []call{cycle.Marker, cycle.Sweeper}[who>>page&1]
				w, _ = mustTurn(t, do, w, want, x.event)
			}
			mustTurn(t, cycle.Sweeper, w, want, api.EvNothing)
		}
	}
}

// TestNoneDirty is of P20.2: where no page is dirty, the cycle ends at once; the marker and the reports are as they were.
func TestNoneDirty(t *testing.T) {
	for _, do := range []call{cycle.Marker, cycle.Sweeper} {
		for pages := 1; pages <= api.MaxPages; pages++ {
			w := newWorld(pages, 2)
			w.Phase, w.Cycle, w.Want = api.Sweep, 3, pages%2 == 0
			w.Marker = api.Marker{Grey: testheap.Row(9, 4), Obj: 4, Roots: testheap.RefsTo(4)}
			w.Reports = []api.Report{{Cycle: 3, Free: 9}}
			want := testheap.KeptWorld(w)
			want.Phase = api.Idle
			mustTurn(t, do, w, want, api.EvSwept)
		}
	}
}

// TestOneDirty is of P20.2: a lone dirty page, at each place: it is swept, and the cycle ends by that turn.
func TestOneDirty(t *testing.T) {
	for _, do := range []call{cycle.Marker, cycle.Sweeper} {
		for page := range api.MaxPages {
			spans := slices.Repeat([]api.Span{{State: api.SpanClean, Class: 1, Free: 0xfe}}, api.MaxPages)
			spans[page] = api.Span{State: api.SpanDirty, Class: 3, Free: 2}
			w := worldOf(testheap.Blank(spans...), resting())
			w.Phase = api.Sweep
			testheap.Write(w.Heap, 32*page, 255, 1, 1)
			want := testheap.KeptWorld(w)
			want.Phase, want.Heap.Spans[page] = api.Idle, api.Span{}
			clear(want.Heap.Words[32*page : 32*page+16])
			mustTurn(t, do, w, want, api.EvSwept)
		}
	}
}

// TestSweeperElsewhere is of P20.2: in another phase than Sweep nothing befalls by the sweeper's turn.
func TestSweeperElsewhere(t *testing.T) {
	for _, phase := range []int{api.Idle, api.Mark} {
		for _, isWanted := range []bool{true, false} {
			for _, w := range []api.World{marking(), sweeping(), newWorld(1, 1)} {
				w.Phase, w.Want = phase, isWanted
				mustTurn(t, cycle.Sweeper, w, testheap.KeptWorld(w), api.EvNothing)
			}
		}
	}
}

// TestEachTurn is of P20.2 and P20.3: of worlds of all kinds, turn by turn, each behind the other, they keep their form.
func TestEachTurn(t *testing.T) {
	for seed := range 2000 {
		number := testheap.Numbers(seed)
		w := testheap.AnyWorld(number, 1+seed%4)
		for range 30 {
			if number(3) == 0 {
				w, _ = mustSweep(t, w)
			} else {
				w, _ = mustMark(t, w)
			}
			mustHaveForm(t, w, true)
			w.Want = w.Want || number(3) == 0
		}
	}
}

// TestNoPhase is of P1: a number that is no phase's lets the turns end all the same.
func TestNoPhase(t *testing.T) {
	for _, n := range append([]int{3, 4, 256}, testheap.Far()...) {
		for _, w := range []api.World{marking(), sweeping(), newWorld(1, 1)} {
			w.Phase, w.Want = n, true
			mustTurn(t, cycle.Marker, w, testheap.KeptWorld(w), api.EvNothing)
			mustTurn(t, cycle.Sweeper, w, testheap.KeptWorld(w), api.EvNothing)
		}
	}
}

// TestZeroWorld is of P20.1: a world without anything has no form, no caches, and Form ends.
func TestZeroWorld(t *testing.T) {
	mustHaveForm(t, api.World{}, false)
	if l := cycle.Caches(api.World{}); len(l) != 0 {
		t.Errorf("Caches: %v", l)
	}
}

// mustBeNew fails, if what of a turn's answer is otherwise than it was handed in shares memory with that, or with another
// answer. It writes over what it is handed.
func mustBeNew(t *testing.T, w api.World, do call) {
	t.Helper()
	was := testheap.KeptWorld(w)
	one, _ := do(w)
	two, _ := do(w)
	want := testheap.KeptWorld(two)
	testheap.ScrawlWorldOtherwise(one, was)
	if !testheap.UntouchedWorld(w, was) || !testheap.SameWorld(two, want) {
		t.Fatalf("of %+v: written into its answer: %+v, and %+v; not %+v", was, w, two, want)
	}
	testheap.ScrawlWorldOtherwise(w, want)
	if !testheap.SameWorld(two, want) {
		t.Fatalf("of %+v: written into that: %+v; not %+v", was, two, want)
	}
}

// TestMemory is of P20.4: of worlds of all kinds: what a turn changes is new memory.
func TestMemory(t *testing.T) {
	for seed := range 3000 {
		for _, do := range []call{cycle.Marker, cycle.Sweeper} {
			number := testheap.Numbers(seed)
			w := testheap.AnyWorld(number, 1+seed%4)
			mustBeNew(t, testheap.KeptWorld(w), do)
			next, _ := do(w)
			mustBeNew(t, next, do)
		}
	}
}

// TestCachesMemory is of P20.4: a list of caches is nobody else's.
func TestCachesMemory(t *testing.T) {
	w := marking()
	was := testheap.KeptWorld(w)
	one, two := cycle.Caches(w), cycle.Caches(w)
	for i := range testheap.Whole(one) {
		testheap.Whole(one)[i] = cache{9, 9, 9, 9}
	}
	if !testheap.UntouchedWorld(w, was) || !slices.Equal(two, testheap.CachesOf(was)) {
		t.Errorf("written into caches: %+v, %v", w, two)
	}
}

// TestReportsMemory is of P20.4: of one world two ends of marking may come, each with its report behind the same ones.
func TestReportsMemory(t *testing.T) {
	w := worldOf(testheap.Mixed(), resting())
	w.Phase, w.Marker = api.Mark, api.Marker{Barriers: make([]api.Grey, 1), Obj: -1, Cursor: -1}
	for n := range 40 {
		was := testheap.KeptWorld(w)
		one, two := w, w
		one.Cycle, two.Cycle = 100+n, 200+n
		one, _ = mustMark(t, one)
		two, _ = mustMark(t, two)
		if one.Reports[n].Cycle != 100+n || two.Reports[n].Cycle != 200+n {
			t.Fatalf("the reports: %+v, %+v", one.Reports, two.Reports)
		}
		if !testheap.UntouchedWorld(w, was) {
			t.Fatalf("%+v; that was %+v", w, was)
		}
		w.Reports = one.Reports
	}
}

// TestNoneIsKept is of P20.4: what is answered stays, when other turns come.
func TestNoneIsKept(t *testing.T) {
	for seed := range 50 {
		w := testheap.AnyWorld(testheap.Numbers(seed), 1+seed%4)
		var all, keep []api.World
		for range 40 {
			w, _ = cycle.Marker(w)
			all, keep = append(all, w), append(keep, testheap.KeptWorld(w))
			w.Want = true
		}
		for i, x := range all {
			cycle.Sweeper(x)
			cycle.Marker(x)
			if !testheap.UntouchedWorld(x, keep[i]) {
				t.Fatalf("%+v; that was %+v", x, keep[i])
			}
		}
	}
}

// FuzzCycle is of P20.1, P20.2 and P20.4, of whatever words, mutators and markers come: two bytes are a word, one a turn.
func FuzzCycle(f *testing.F) {
	f.Add([]byte{1, 2, 0}, []byte{0, 129, 0, 66, 0, 129, 0, 4}, []byte{0, 0, 1, 2, 0, 4}, 3, true)
	f.Add([]byte{8, 5, 4, 7}, []byte{0, 191, 0, 2, 0, 66, 0, 129, 1, 2}, []byte{2, 0, 0, 0, 0, 1}, 7, true)
	f.Add([]byte{}, []byte{}, []byte{1}, 16, false)
	f.Fuzz(func(t *testing.T, pages, words, turns []byte, seed int, sense bool) {
		number := testheap.Numbers(seed)
		h := testheap.OfBytes(pages, words)
		w := testheap.AnyWorld(number, len(h.Spans))
		// Pages that are in a cache stay; all else is as the bytes tell.
		for page := range h.Spans {
			if !testheap.Stands(testheap.CachesOf(w), page) {
				w.Heap.Spans[page] = h.Spans[page]
			}
		}
		w.Heap.Words, w.Heap.Sense = h.Words, sense
		w.Marker.Obj, w.Marker.Field, w.Marker.Cursor = -1, 0, min(w.Marker.Cursor, len(h.Words))
		for _, b := range turns {
			mustHaveForm(t, w, true)
			mustTell(t, w, testheap.ReportOf(w))
			mustBeNew(t, testheap.KeptWorld(w), cycle.Marker)
			mustBeNew(t, testheap.KeptWorld(w), cycle.Sweeper)
			w.Want = w.Want || b%2 == 1
			if b%4 > 1 {
				w, _ = mustSweep(t, w)
			} else {
				w, _ = mustMark(t, w)
			}
		}
	})
}
