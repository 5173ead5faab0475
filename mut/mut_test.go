package mut_test

import (
	"math"
	"slices"
	"testing"

	"flotsam/api"
	"flotsam/cycle"
	"flotsam/heap"
	"flotsam/mut"
	"flotsam/testheap"
)

// cache is a mutator's.
type cache = [api.Classes]int

// no is a cache that has no page.
var no = cache{-1, -1, -1, -1}

func ref(n int) api.Value { return api.Value{Kind: api.Ref, N: n} }

func num(n int) api.Value { return api.Value{Kind: api.Int, N: n} }

func alloc(fields int) api.Op { return api.Op{Kind: api.OpAlloc, A: fields} }

func read(slot, field int) api.Op { return api.Op{Kind: api.OpRead, A: slot, B: field} }

func write(slot, field, from int) api.Op {
	return api.Op{Kind: api.OpWrite, A: slot, B: field, C: from}
}

func dup(slot int) api.Op { return api.Op{Kind: api.OpDup, A: slot} }

func integer(n int) api.Op { return api.Op{Kind: api.OpInt, A: n} }

var pop, request = api.Op{Kind: api.OpPop}, api.Op{Kind: api.OpRequest}

// work is the event of a step in the midst of an operation.
func work(who int) api.Event { return api.Event{Who: who, What: api.EvWork} }

// done is the event by which an operation ends that pushes nothing.
func done(who int) api.Event { return api.Event{Who: who, What: api.EvDone} }

// refused is the event by which an operation ends with an error.
func refused(who int, e api.Errno) api.Event { return api.Event{Who: who, What: api.EvDone, Err: e} }

// pushed is the event by which an operation ends that pushes a value.
func pushed(who int, v api.Value) api.Event { return api.Event{Who: who, What: api.EvDone, Val: v} }

// resting answers a mutator at rest that holds those values, and has no page.
func resting(stack ...api.Value) api.Mutator {
	return api.Mutator{Stack: testheap.WithRoom(stack, ref(0)), Cache: no}
}

// worldOf answers a world of a heap and mutators, of four slots, room for two grey objects, and one of a barrier, in a phase.
// In the phase Mark its marker is a new one.
func worldOf(h api.Heap, phase int, ms ...api.Mutator) api.World {
	w := api.World{
		Conf:     api.Conf{Pages: len(h.Spans), Mutators: len(ms), Roots: 4, Grey: 2, Barrier: 1},
		Heap:     h,
		Mutators: testheap.WithRoom(ms, api.Mutator{Stack: []api.Value{ref(0)}, State: api.AtTake}),
		Phase:    phase,
		Cycle:    3,
		Reports:  testheap.WithRoom([]api.Report{{Cycle: 1, Free: 2}}, api.Report{Cycle: 9, Live: 9}),
	}
	if phase == api.Mark {
		rows := slices.Repeat([]api.Grey{testheap.Row(1)}, len(ms))
		w.Marker = api.Marker{Grey: testheap.Row(2), Barriers: testheap.WithRoom(rows, testheap.Row(1, 0)), Roots: testheap.RefsTo(4), Obj: -1, Cursor: -1}
	}
	return w
}

// newWorld answers a world of so many free pages and mutators that hold nothing, in the phase Idle.
func newWorld(pages, mutators int) api.World {
	h, _ := heap.New(pages)
	return worldOf(h, api.Idle, slices.Repeat([]api.Mutator{resting()}, mutators)...)
}

// mustTurn fails, if a mutator's turn answers anything else than is asked for, or changes what it is handed.
func mustTurn(t *testing.T, w api.World, who int, o api.Op, want api.World, event api.Event) api.World {
	t.Helper()
	was := testheap.KeptWorld(w)
	got, e := mut.Turn(w, who, o)
	if e != event || !testheap.SameWorld(got, want) {
		t.Fatalf("Turn(%+v, %d, %+v): %+v, %+v; not %+v, %+v", was, who, o, got, e, want, event)
	}
	if !testheap.UntouchedWorld(w, was) {
		t.Fatalf("Turn(%+v, %d, %+v): handed in became %+v", was, who, o, w)
	}
	return got
}

// mustFollow fails, if a mutator's turn answers anything else than the chapters tell, or changes what it is handed.
func mustFollow(t *testing.T, w api.World, who int, o api.Op) (api.World, api.Event) {
	t.Helper()
	want, event := testheap.MutatorTurn(w, who, o)
	return mustTurn(t, w, who, o, want, event), event
}

// mustBring fails, if an operation, turn by turn, brings other events than those.
func mustBring(t *testing.T, w api.World, who int, o api.Op, events ...api.Event) api.World {
	t.Helper()
	for i, event := range events {
		var e api.Event
		if w, e = mustFollow(t, w, who, o); e != event {
			t.Fatalf("%+v, the turn %d: %+v, not %+v: %+v", o, i, e, event, w)
		}
	}
	return w
}

// mustRefuse fails, if an operation of a mutator at rest isn't refused at once, with that error, or changes anything.
func mustRefuse(t *testing.T, w api.World, who int, o api.Op, e api.Errno) {
	t.Helper()
	mustTurn(t, w, who, o, testheap.KeptWorld(w), refused(who, e))
}

// TestExample is of P21.1: the chapter's example.
func TestExample(t *testing.T) {
	w := mustBring(t, newWorld(1, 1), 0, alloc(1), work(0), work(0), pushed(0, ref(0)))
	if !slices.Equal(w.Mutators[0].Stack, []api.Value{ref(0)}) {
		t.Errorf("%+v", w)
	}
}

// TestExamplesOfTheWhole is of P21.1: the document's ten examples.
func TestExamplesOfTheWhole(t *testing.T) {
	w := newWorld(1, 1)
	w.Conf, w.Cycle, w.Reports = api.Conf{Pages: 1, Mutators: 1, Roots: 2, Grey: 1, Barrier: 1}, 0, nil
	marker := func(events ...int) {
		t.Helper()
		for _, event := range events {
			var what int
			if w, what = cycle.Marker(w); what != event {
				t.Fatalf("the marker's turn: %d, not %d: %+v", what, event, w)
			}
		}
	}
	w = mustBring(t, w, 0, alloc(1), work(0), work(0), pushed(0, ref(0)))
	w = mustBring(t, w, 0, alloc(1), work(0), work(0), pushed(0, ref(2)))
	w = mustBring(t, w, 0, alloc(1), refused(0, api.ErrFull))
	w = mustBring(t, w, 0, write(0, 0, 1), work(0), done(0))
	w = mustBring(t, w, 0, pop, done(0))
	if w = mustBring(t, w, 0, request, done(0)); !w.Want {
		t.Errorf("none is asked for: %+v", w)
	}
	if marker(api.EvSnapshot); !slices.Equal(w.Marker.Roots, []api.Value{ref(0)}) {
		t.Errorf("roots: %v", w.Marker.Roots)
	}
	marker(api.EvWork, api.EvWork, api.EvWork, api.EvWork, api.EvWork, api.EvMarked)
	w, what := cycle.Sweeper(w)
	if want := (api.Report{Cycle: 1, Free: 28, Live: 4}); what != api.EvSwept || !slices.Equal(w.Reports, []api.Report{want}) {
		t.Errorf("%d: %+v", what, w)
	}
	w = mustBring(t, mustBring(t, w, 0, pop, done(0)), 0, request, done(0))
	marker(api.EvSnapshot, api.EvMarked, api.EvSwept)
	if want := (api.Report{Cycle: 2, Free: 28, Freed: 4}); len(w.Reports) != 2 || w.Reports[1] != want {
		t.Errorf("the reports: %+v", w.Reports)
	}
	mustBring(t, w, 0, read(0, 0), refused(0, api.ErrNone))
}

// filled answers a world of Mixed's heap in a phase, and three mutators, the second of which holds the objects 64 (white, of
// the fields 68, a number and 63) and 68 (black), and a number.
func filled(phase int) api.World {
	return worldOf(testheap.Mixed(), phase, resting(), resting(ref(64), ref(68), num(7)), resting(ref(4), api.Value{}, num(1), ref(1)))
}

// TestRefused is of P21.1 and P21.2: each error: nothing is otherwise, in whatever phase.
func TestRefused(t *testing.T) {
	for phase := range 3 {
		for _, isWanted := range []bool{true, false} {
			w := filled(phase)
			w.Want = isWanted
			for _, x := range []struct {
				who int
				o   api.Op
				e   api.Errno
			}{
				{1, alloc(16), 1}, {1, alloc(-1), 1}, {0, alloc(1 << 32), 1}, {1, integer(-1), 1}, {0, integer(1<<40 + 1), 1},
				{2, read(1, 0), 2}, {2, write(1, 0, 0), 2}, {2, read(2, 0), 7}, {1, write(2, 0, 0), 7}, {2, read(3, 0), 1}, {2, write(3, 0, 0), 1},
				{1, read(3, 0), 3}, {0, read(0, 0), 3}, {1, read(-1, 0), 3}, {1, read(0, 3), 4}, {1, read(0, -1), 4}, {1, write(0, 3, 3), 4},
				{2, read(0, 0), 4}, {1, write(0, 2, 3), 3}, {1, write(0, 0, -1), 3}, {0, dup(0), 3}, {1, dup(3), 3}, {1, dup(-1), 3}, {0, pop, 3},
				{2, alloc(0), 5}, {2, dup(0), 5}, {2, integer(3), 5}, {2, dup(4), 3}, {2, alloc(16), 1},
			} {
				mustRefuse(t, w, x.who, x.o, x.e)
			}
			for _, kind := range append([]int{7, 8, 256, 256 + 5, 1<<32 + 6}, testheap.Far()...) {
				mustRefuse(t, w, 1, api.Op{Kind: kind}, api.ErrArg)
			}
		}
	}
}

// TestRoom is of P21.1: a stack's room is Roots: what pushes is refused just by one that is full, of whatever room.
func TestRoom(t *testing.T) {
	for roots := 1; roots <= api.MaxRoots; roots++ {
		for n := range roots + 1 {
			w := filled(api.Idle)
			w.Conf.Roots = roots
			for i := range w.Mutators {
				w.Mutators[i].Stack = testheap.RefsTo(slices.Repeat([]int{64}, n)...)
			}
			for _, o := range []api.Op{alloc(1), read(0, 2), dup(0), integer(0)} {
				_, e := mustFollow(t, w, 1, o)
				if isFull := e.Err == api.ErrFull; n > 0 && isFull != (n == roots) {
					t.Errorf("%d values of %d, %+v: %+v", n, roots, o, e)
				}
			}
			for _, o := range []api.Op{pop, request, write(0, 0, 0)} {
				if _, e := mustFollow(t, w, 1, o); e.Err == api.ErrFull {
					t.Errorf("%d values of %d, %+v: %+v", n, roots, o, e)
				}
			}
		}
	}
}

// TestLeftOver is of P21.1: what a mutator at rest has of an operation that is none counts for nothing; as an operation ends,
// be it refused, its Op, Obj and Val are zero.
func TestLeftOver(t *testing.T) {
	for phase := range 3 {
		for o, event := range map[api.Op]api.Event{
			dup(2):         pushed(1, num(7)),
			integer(1):     pushed(1, num(1)),
			pop:            done(1),
			request:        done(1),
			alloc(16):      refused(1, api.ErrArg),
			read(0, 3):     refused(1, api.ErrField),
			write(0, 0, 3): refused(1, api.ErrNone),
			{Kind: 7}:      refused(1, api.ErrArg),
		} {
			w := filled(phase)
			want, _ := testheap.MutatorTurn(w, 1, o)
			m := &w.Mutators[1]
			m.Op, m.Obj, m.Val = write(0, 1, 2), 68, ref(64)
			mustTurn(t, w, 1, o, want, event)
		}
	}
}

// TestAlloc is of P21.1: worked out by hand, each turn, of a heap in use and both senses: the object is black.
func TestAlloc(t *testing.T) {
	for _, phase := range []int{api.Idle, api.Mark} {
		for _, isWanted := range []bool{true, false} {
			for _, sense := range []bool{true, false} {
				w := filled(phase)
				w.Want, w.Heap.Sense = isWanted, sense
				w.Mutators[2].Cache = cache{0, -1, -1, -1}
				o := api.Op{Kind: api.OpAlloc, A: 2, B: 9, C: -4}
				want := testheap.KeptWorld(w)
				want.Mutators[1].State, want.Mutators[1].Op = api.AtClaim, o
				w = mustTurn(t, w, 1, o, want, work(1))
				want.Mutators[1].State, want.Mutators[1].Obj, want.Mutators[1].Cache = api.AtTake, 32, cache{-1, 1, -1, -1}
				want.Heap.Spans[1] = api.Span{State: api.SpanClean, Class: 1, Free: 0xfe}
				testheap.Write(want.Heap, 32, 146, 0, 0, 0)
				if sense {
					want.Heap.Words[32] += testheap.Colour
				}
				w = mustTurn(t, w, 1, alloc(1), want, work(1))
				want.Mutators[1] = api.Mutator{Stack: []api.Value{ref(64), ref(68), num(7), ref(32)}, Cache: cache{-1, 1, -1, -1}}
				mustTurn(t, w, 1, pop, want, pushed(1, ref(32)))
			}
		}
	}
}

// TestAllocOfEachCount is of P21.1: each number of fields, from the first page on; the number that counts is the one that was
// handed in as it began.
func TestAllocOfEachCount(t *testing.T) {
	for count, class := range testheap.ClassFor() {
		for pages := 1; pages <= api.MaxPages; pages++ {
			w := newWorld(pages, 2)
			for i := range min(4, 32/testheap.WordsOf(class)) {
				at := i * testheap.WordsOf(class)
				w = mustBring(t, w, 1, alloc(count), work(1), work(1), pushed(1, ref(at)))
				if x := testheap.HeaderAt(w.Heap, at); x != (api.Header{Used: true, Class: class, Count: count}) {
					t.Fatalf("%d fields: %+v", count, x)
				}
			}
			if w.Mutators[1].Cache[class] != 0 || w.Mutators[0].Cache != no {
				t.Errorf("%d fields: %+v", count, w.Mutators)
			}
		}
	}
}

// sweeping answers a world in the phase Sweep of three dirty pages: in the first is a black object at 0, in the second are two
// white ones, that fill it, in the third one white one; and two mutators, that hold the black one.
func sweeping() api.World {
	h := testheap.Blank(
		api.Span{State: api.SpanDirty, Class: 0, Free: 0xfffe},
		api.Span{State: api.SpanDirty, Class: 3},
		api.Span{State: api.SpanDirty, Class: 2, Free: 0xe},
	)
	h.Sense = true
	testheap.Write(h, 0, 193, 5)
	testheap.Write(h, 32, 177, testheap.RefTo(48))
	testheap.Write(h, 48, 176)
	testheap.Write(h, 64, 164, 1, 2, 3, 4)
	return worldOf(h, api.Sweep, resting(ref(0)), resting(ref(0)))
}

// TestAllocSweeps is of P21.1: worked out by hand: an Alloc begins with the sweeper's turn; as long as it finds no room, it
// stays AtClaim, and has such a turn each time; then room is found.
func TestAllocSweeps(t *testing.T) {
	for _, isWanted := range []bool{true, false} {
		w := sweeping()
		w.Want = isWanted
		w.Heap.Spans[1].Free = 0 // what is dirty is none's
		want := testheap.KeptWorld(w)
		want.Heap.Spans[0].State = api.SpanClean
		want.Mutators[0].State, want.Mutators[0].Op = api.AtClaim, alloc(9)
		w = mustTurn(t, w, 0, alloc(9), want, work(0))
		clear(want.Heap.Words[32:64])
		want.Heap.Spans[1] = api.Span{}
		w = mustTurn(t, w, 0, alloc(1), want, work(0))
		want.Heap.Spans[1] = api.Span{State: api.SpanClean, Class: 3, Free: 2}
		want.Heap.Words[32] = 249
		want.Mutators[0].State, want.Mutators[0].Obj, want.Mutators[0].Cache = api.AtTake, 32, cache{-1, -1, -1, 1}
		w = mustTurn(t, w, 0, alloc(9), want, work(0))
		want.Mutators[0] = api.Mutator{Stack: []api.Value{ref(0), ref(32)}, Cache: cache{-1, -1, -1, 1}}
		mustTurn(t, w, 0, alloc(9), want, pushed(0, ref(32)))
	}
}

// TestAllocEndsTheCycle is of P21.1: the last dirty page may be swept by an Alloc, as it begins, or as it claims; behind that
// its phase is Idle.
func TestAllocEndsTheCycle(t *testing.T) {
	w := sweeping()
	w.Mutators[0] = api.Mutator{Stack: testheap.RefsTo(0), Cache: cache{0, -1, 2, 1}}
	for i, phase := range []int{api.Sweep, api.Sweep, api.Idle} {
		w = mustBring(t, w, 1, alloc(5), work(1))
		if w.Phase != phase || w.Mutators[1].State != api.AtClaim {
			t.Errorf("turn %d: %+v", i, w)
		}
	}
	// All that is clean is in the other one's cache.
	w = mustBring(t, w, 1, alloc(5), refused(1, api.ErrSpace))
	if !w.Want || w.Phase != api.Idle || len(w.Mutators[1].Stack) != 1 {
		t.Errorf("%+v", w)
	}
	w = sweeping()
	w.Heap.Spans[0].State, w.Heap.Spans[1].State = api.SpanClean, api.SpanClean
	w = mustBring(t, w, 1, alloc(4), work(1))
	if w.Phase != api.Idle || w.Heap.Spans[2] != (api.Span{}) {
		t.Errorf("%+v", w)
	}
	mustBring(t, w, 1, alloc(4), work(1), pushed(1, ref(64)))
}

// TestNothingIsSweptElsewhere is of P21.1: all turns but those of an Alloc leave dirty pages as they are.
func TestNothingIsSweptElsewhere(t *testing.T) {
	w := sweeping()
	for _, o := range []api.Op{read(0, 0), write(0, 0, 0), dup(0), integer(4), pop, request, alloc(99)} {
		next, e := mustFollow(t, w, 0, o)
		for e.What == api.EvWork {
			next, e = mustFollow(t, next, 0, o)
		}
		if !slices.Equal(next.Heap.Spans, w.Heap.Spans) || next.Phase != api.Sweep {
			t.Errorf("%+v: %+v", o, next)
		}
	}
}

// crowded answers a world of one full page, whose mutators hold nothing.
func crowded(phase int) api.World {
	h := testheap.Blank(api.Span{State: api.SpanClean, Class: 3})
	testheap.Write(h, 0, 176)
	testheap.Write(h, 16, 176)
	return worldOf(h, phase, resting(num(1)), resting())
}

// TestNoRoom is of P21.1 and P21.2: where nothing is swept, an Alloc that finds no room ends with ErrSpace; nothing is
// otherwise then, but that a cycle is asked for.
func TestNoRoom(t *testing.T) {
	for _, phase := range []int{api.Idle, api.Mark} {
		for _, isWanted := range []bool{true, false} {
			for count := range api.MaxFields + 1 {
				w := crowded(phase)
				w.Want = isWanted
				behind := testheap.KeptWorld(w)
				w, _ = mustFollow(t, w, 0, alloc(count))
				if w.Want != isWanted {
					t.Errorf("asked for too soon: %+v", w)
				}
				behind.Want = true
				mustTurn(t, w, 0, request, behind, refused(0, api.ErrSpace))
			}
		}
	}
}

// TestNoRoomBehindSweeping is of P21.1 and P21.2: what stays when all is swept leaves no room: all that is otherwise is what
// is swept, and that a cycle is asked for.
func TestNoRoomBehindSweeping(t *testing.T) {
	w := crowded(api.Sweep)
	w.Heap.Spans[0].State = api.SpanDirty
	behind := testheap.KeptWorld(w)
	behind.Want, behind.Phase, behind.Heap.Spans[0].State = true, api.Idle, api.SpanClean
	w = mustBring(t, w, 1, alloc(0), work(1))
	mustTurn(t, w, 1, alloc(0), behind, refused(1, api.ErrSpace))
}

// TestRead is of P21.1: worked out by hand: the value is that of the first turn, whatever is written between.
func TestRead(t *testing.T) {
	for phase := range 3 {
		w := filled(phase)
		for i, v := range []api.Value{ref(68), ref(63), num(64)} {
			o := api.Op{Kind: api.OpRead, B: i, C: 77}
			want := testheap.KeptWorld(w)
			m := &want.Mutators[1]
			m.State, m.Op, m.Val = api.AtPush, o, v
			next := mustTurn(t, w, 1, o, want, work(1))
			next.Heap = testheap.Kept(next.Heap)
			clear(next.Heap.Words[65:68])
			want.Heap = next.Heap
			*m = api.Mutator{Stack: []api.Value{ref(64), ref(68), num(7), v}, Cache: no}
			mustTurn(t, next, 1, pop, want, pushed(1, v))
		}
	}
}

// TestWrite is of P21.1: worked out by hand: in the phases Idle and Sweep nothing is noted; the field stays till the store.
func TestWrite(t *testing.T) {
	for _, phase := range []int{api.Idle, api.Sweep} {
		w := filled(phase)
		w.Marker = api.Marker{Grey: testheap.Row(2), Barriers: slices.Repeat([]api.Grey{testheap.Row(5)}, 3), Obj: -1, Cursor: -1}
		w.Heap.Words[68] -= testheap.Colour
		for from, v := range []api.Value{ref(64), ref(68), num(7)} {
			o := write(0, 0, from)
			want := testheap.KeptWorld(w)
			m := &want.Mutators[1]
			m.State, m.Op, m.Obj, m.Val = api.AtStore, o, 64, v
			next := mustTurn(t, w, 1, o, want, work(1))
			*m = api.Mutator{Stack: []api.Value{ref(64), ref(68), num(7)}, Cache: no}
			want.Heap.Words[65] = []uint64{testheap.RefTo(64), testheap.RefTo(68), 15}[from]
			mustTurn(t, next, 1, alloc(3), want, done(1))
		}
	}
}

// TestWriteIsNoted is of P21.1: worked out by hand: in the phase Mark what the field holds is shaded with the mutator's own
// row; what is written isn't, nor is the object that is written to.
func TestWriteIsNoted(t *testing.T) {
	for who := range 3 {
		for room := range 3 {
			w := filled(api.Mark)
			w.Mutators[0], w.Mutators[1], w.Mutators[2] = resting(), resting(), resting()
			w.Mutators[who] = resting(ref(64), ref(4))
			w.Marker.Barriers[who] = testheap.Row(room, slices.Repeat([]int{24}, max(room-1, 0))...)
			w.Heap.Words[68] -= testheap.Colour
			want := testheap.KeptWorld(w)
			want.Heap.Words[68] += testheap.Colour
			m := &want.Mutators[who]
			m.State, m.Op, m.Obj, m.Val = api.AtStore, write(0, 0, 1), 64, ref(4)
			if room == 0 {
				want.Marker.Over = true
			} else {
				want.Marker.Barriers[who].Items = append(slices.Repeat([]int{24}, room-1), 68)
			}
			w = mustTurn(t, w, who, write(0, 0, 1), want, work(who))
			*m = api.Mutator{Stack: []api.Value{ref(64), ref(4)}, Cache: no}
			want.Heap.Words[65] = testheap.RefTo(4)
			mustTurn(t, w, who, pop, want, done(who))
		}
	}
}

// TestWriteWithNothingToNote is of P21.1: a black object, a number and a Ref to none are shaded by nobody.
func TestWriteWithNothingToNote(t *testing.T) {
	for field := range 3 {
		w := filled(api.Mark)
		w.Marker.Barriers[1] = testheap.Row(0)
		want := testheap.KeptWorld(w)
		m := &want.Mutators[1]
		m.State, m.Op, m.Obj, m.Val = api.AtStore, write(0, field, 2), 64, num(7)
		mustTurn(t, w, 1, write(0, field, 2), want, work(1))
	}
}

// storing answers a world of Mixed's heap, and a mutator that is AtStore.
func storing(obj, field int, v api.Value) api.World {
	m := resting(num(2))
	m.State, m.Op, m.Obj, m.Val = api.AtStore, write(0, field, 0), obj, v
	return worldOf(testheap.Mixed(), api.Idle, resting(), m)
}

// TestStore is of P21.1: each field of an object, with each kind of value; the operation ends without an error.
func TestStore(t *testing.T) {
	for i := range 3 {
		for v, word := range map[api.Value]uint64{
			{}:                   0,
			num(0):               1,
			num(1 << 40):         1<<41 + 1,
			num(math.MaxInt):     1<<64 - 1,
			ref(0):               2,
			ref(64):              130,
			ref(math.MaxInt - 1): 1<<64 - 2,
			ref(1 << 40):         1<<41 + 2,
		} {
			w := storing(64, i, v)
			want := testheap.KeptWorld(w)
			want.Mutators[1] = resting(num(2))
			want.Heap.Words[65+i] = word
			mustTurn(t, w, 1, api.Op{}, want, done(1))
		}
	}
}

// TestStoreOfNothing is of P21.1: no object, no such field, or a value that may not be: the heap stays, and no error is told.
func TestStoreOfNothing(t *testing.T) {
	var l []api.World
	for _, at := range testheap.MixedNoObjects() {
		l = append(l, storing(at, 0, num(3)))
	}
	for _, i := range append([]int{3, 4, 256, 256 + 1}, testheap.Far()...) {
		l = append(l, storing(64, i, num(3)))
	}
	for _, v := range []api.Value{{N: 1}, num(-1), ref(-1), ref(math.MaxInt), {Kind: 3}, {Kind: -1, N: 4}, {Kind: 256 + 1, N: 4}} {
		l = append(l, storing(64, 1, v))
	}
	for _, w := range l {
		want := testheap.KeptWorld(w)
		want.Mutators[1] = resting(num(2))
		mustTurn(t, w, 1, dup(0), want, done(1))
	}
}

// TestPushes is of P21.1: what is held in registers is pushed, be it whatever value, or the address of no object.
func TestPushes(t *testing.T) {
	for phase := range 3 {
		for _, v := range []api.Value{{}, num(0), num(1 << 60), ref(64), ref(-5), {Kind: 7, N: -2}} {
			w := filled(phase)
			m := &w.Mutators[1]
			m.State, m.Op, m.Obj, m.Val = api.AtPush, read(1, 1), 68, v
			want := testheap.KeptWorld(w)
			want.Mutators[1] = resting(ref(64), ref(68), num(7), v)
			mustTurn(t, w, 1, pop, want, pushed(1, v))
		}
		for _, at := range []int{0, 64, 65, 159, -5, 1 << 40} {
			w := filled(phase)
			m := &w.Mutators[1]
			m.State, m.Op, m.Obj, m.Val = api.AtTake, alloc(3), at, num(4)
			want := testheap.KeptWorld(w)
			want.Mutators[1] = resting(ref(64), ref(68), num(7), ref(at))
			mustTurn(t, w, 1, pop, want, pushed(1, ref(at)))
		}
	}
}

// TestDupAndInt is of P21.1: each slot's value, whatever it is, and numbers from the least to the greatest.
func TestDupAndInt(t *testing.T) {
	for phase := range 3 {
		w := filled(phase)
		stack := []api.Value{{}, ref(-3), {Kind: 9, N: 9}}
		w.Mutators[0] = resting(stack...)
		for i, v := range stack {
			want := testheap.KeptWorld(w)
			want.Mutators[0] = resting(append(slices.Clone(stack), v)...)
			mustTurn(t, w, 0, api.Op{Kind: api.OpDup, A: i, B: 7, C: -7}, want, pushed(0, v))
		}
		for _, n := range []int{0, 1, 2, 1 << 32, 1<<40 - 1, 1 << 40} {
			want := testheap.KeptWorld(w)
			want.Mutators[0] = resting(append(slices.Clone(stack), num(n))...)
			mustTurn(t, w, 0, api.Op{Kind: api.OpInt, A: n, B: 7, C: -7}, want, pushed(0, num(n)))
		}
	}
}

// TestPopAndRequest is of P21.1: one by one the top goes, till there is none; a cycle is asked for, be it so already.
func TestPopAndRequest(t *testing.T) {
	for phase := range 3 {
		w := filled(phase)
		want := testheap.KeptWorld(w)
		for n := 3; n > 0; n-- {
			want.Mutators[1].Stack = want.Mutators[1].Stack[:n-1]
			w = mustTurn(t, w, 1, api.Op{Kind: api.OpPop, A: 9, B: -9}, want, done(1))
		}
		mustRefuse(t, w, 1, pop, api.ErrNone)
		for range 2 {
			want.Want = true
			w = mustTurn(t, w, 1, api.Op{Kind: api.OpRequest, A: 9, B: -9}, want, done(1))
		}
	}
}

// TestHandedInCountsForNothing is of P21.1: in the midst of an operation another one that is handed in counts for nothing.
func TestHandedInCountsForNothing(t *testing.T) {
	for seed := range 300 {
		number := testheap.Numbers(seed)
		w := testheap.AnyInPlay(number, 1+seed%4)
		for who, m := range w.Mutators {
			if m.State == api.AtRest {
				continue
			}
			want, event := testheap.MutatorTurn(w, who, m.Op)
			for _, o := range []api.Op{{}, alloc(15), read(0, 0), write(0, 0, 0), dup(0), integer(1), pop, request, {Kind: -1, A: -1}, {Kind: 99, A: math.MaxInt}} {
				mustTurn(t, w, who, o, want, event)
			}
		}
	}
}

// anyOp answers an operation, most often one that names a slot of a mutator's stack and one of an object's first fields.
func anyOp(number func(below int) int, m api.Mutator) api.Op {
	o := testheap.AnyOp(number, len(m.Stack))
	if o.Kind == api.OpAlloc && number(2) == 0 {
		o.A = number(18) - 1
	}
	if o.Kind == api.OpRead || o.Kind == api.OpWrite {
		o.B = number(1 + number(8))
	}
	return o
}

// moment is what a turn was of: the mutator's state, the operation's kind at rest, and what it came to.
type moment struct {
	state, kind, what int
	err               api.Errno
}

// TestEachTurn is of P21.1: of worlds of all kinds, the turns of each mutator, held against the chapters' words.
func TestEachTurn(t *testing.T) {
	seen := map[moment]int{}
	for seed := range 10000 {
		number := testheap.Numbers(seed)
		w := testheap.AnyInPlay(number, 1+seed%4)
		for who, m := range w.Mutators {
			o := anyOp(number, m)
			_, e := mustFollow(t, w, who, o)
			kind := o.Kind
			if m.State != api.AtRest || e.Err == api.ErrArg {
				kind = 0
			}
			seen[moment{m.State, kind, e.What, e.Err}]++
		}
	}
	for _, x := range []moment{
		{api.AtRest, 0, api.EvWork, 0}, {api.AtRest, 1, api.EvWork, 0}, {api.AtRest, 2, api.EvWork, 0}, {api.AtRest, 3, api.EvDone, 0},
		{api.AtRest, 4, api.EvDone, 0}, {api.AtRest, 5, api.EvDone, 0}, {api.AtRest, 6, api.EvDone, 0}, {api.AtRest, 0, api.EvDone, 1},
		{api.AtRest, 1, api.EvDone, 2}, {api.AtRest, 2, api.EvDone, 3}, {api.AtRest, 1, api.EvDone, 4}, {api.AtRest, 1, api.EvDone, 5},
		{api.AtRest, 0, api.EvDone, 5}, {api.AtRest, 2, api.EvDone, 7}, {api.AtClaim, 0, api.EvWork, 0}, {api.AtClaim, 0, api.EvDone, 6},
		{api.AtTake, 0, api.EvDone, 0}, {api.AtPush, 0, api.EvDone, 0}, {api.AtStore, 0, api.EvDone, 0},
	} {
		if seen[x] < 20 {
			t.Errorf("%+v: but %d times", x, seen[x])
		}
	}
}

// TestRows is of P21.1: turns in long rows, of worlds of all kinds, as long as they have their form and may have turns.
func TestRows(t *testing.T) {
	for seed := range 1000 {
		number := testheap.Numbers(seed)
		w := testheap.AnyInPlay(number, 1+seed%6)
		for range 40 {
			who := number(len(w.Mutators))
			w, _ = mustFollow(t, w, who, anyOp(number, w.Mutators[who]))
			if number(5) == 0 {
				w, _ = cycle.Marker(w)
			}
			// A heap that isn't sound may take the form away.
			if !cycle.Form(w) {
				break
			}
		}
	}
}

// TestNoSuchMutator is of P1: a number that is no mutator's lets the turn end all the same.
func TestNoSuchMutator(t *testing.T) {
	for phase := range 3 {
		for _, who := range append([]int{3, 4, 5, 8, 256, 256 + 1, 1<<32 + 2}, testheap.Far()...) {
			w := filled(phase)
			mustTurn(t, w, who, request, testheap.KeptWorld(w), api.Event{Who: who, Err: api.ErrArg})
		}
	}
	mustTurn(t, api.World{}, 0, alloc(1), api.World{}, api.Event{Err: api.ErrArg})
}

// TestNoSuchState is of P1: a number that is no State's lets the turn end all the same.
func TestNoSuchState(t *testing.T) {
	for phase := range 3 {
		for _, state := range append([]int{5, 6, 7, 8, 256, 256 + 1, 1<<32 + 4}, testheap.Far()...) {
			w := filled(phase)
			w.Mutators[1].State = state
			mustTurn(t, w, 1, request, testheap.KeptWorld(w), api.Event{Who: 1})
		}
	}
}

// TestNoRoomAsPromised is of P1: a mutator that has no room for what it is to push, or claims so many fields as may not be,
// lets the turn end all the same.
func TestNoRoomAsPromised(t *testing.T) {
	for _, state := range []int{api.AtTake, api.AtPush} {
		w := filled(api.Idle)
		w.Mutators[2].State = state
		next, e := mut.Turn(w, 2, pop)
		if e != refused(2, api.ErrFull) || !slices.Equal(next.Mutators[2].Stack, w.Mutators[2].Stack) {
			t.Errorf("%+v: %+v", e, next)
		}
	}
	for _, n := range append([]int{16, 17}, testheap.Far()...) {
		w := filled(api.Idle)
		w.Mutators[1].State, w.Mutators[1].Op = api.AtClaim, alloc(n)
		if next, e := mut.Turn(w, 1, pop); e != refused(1, api.ErrSpace) || !testheap.Same(next.Heap, w.Heap) {
			t.Errorf("%+v: %+v", e, next)
		}
	}
}

// mustBeNew fails, if what of a turn's answer is otherwise than it was handed in shares memory with that, or with another
// answer. It writes over what it is handed.
func mustBeNew(t *testing.T, w api.World, who int, o api.Op) {
	t.Helper()
	was := testheap.KeptWorld(w)
	one, _ := mut.Turn(w, who, o)
	two, _ := mut.Turn(w, who, o)
	want := testheap.KeptWorld(two)
	testheap.ScrawlWorldOtherwise(one, was)
	if !testheap.UntouchedWorld(w, was) || !testheap.SameWorld(two, want) {
		t.Fatalf("of %+v, %d, %+v: written into its answer: %+v, and %+v; not %+v", was, who, o, w, two, want)
	}
	testheap.ScrawlWorldOtherwise(w, want)
	if !testheap.SameWorld(two, want) {
		t.Fatalf("of %+v, %d, %+v: written into that: %+v; not %+v", was, who, o, two, want)
	}
}

// TestMemory is of P21.3: of worlds of all kinds: what a turn changes is new memory.
func TestMemory(t *testing.T) {
	for seed := range 2000 {
		number := testheap.Numbers(seed)
		w := testheap.AnyInPlay(number, 1+seed%4)
		for who, m := range w.Mutators {
			mustBeNew(t, testheap.KeptWorld(w), who, anyOp(number, m))
		}
	}
}

// TestTwoFutures is of P21.3: of one world two turns may come, each with its value on the same stack; mutators whose stacks
// lie in one memory have each its own behind a turn.
func TestTwoFutures(t *testing.T) {
	shared := testheap.WithRoom([]api.Value{num(1)}, ref(4))
	w := newWorld(1, 2)
	w.Mutators[0].Stack, w.Mutators[1].Stack = shared, shared
	one := mustBring(t, w, 0, integer(5), pushed(0, num(5)))
	two := mustBring(t, w, 0, integer(6), pushed(0, num(6)))
	three := mustBring(t, one, 1, integer(7), pushed(1, num(7)))
	four := mustBring(t, one, 0, pop, done(0))
	for i, x := range []struct {
		w    api.World
		a, b []api.Value
	}{
		{w, []api.Value{num(1)}, []api.Value{num(1)}},
		{one, []api.Value{num(1), num(5)}, []api.Value{num(1)}},
		{two, []api.Value{num(1), num(6)}, []api.Value{num(1)}},
		{three, []api.Value{num(1), num(5)}, []api.Value{num(1), num(7)}},
		{four, []api.Value{num(1)}, []api.Value{num(1)}},
	} {
		if !slices.Equal(x.w.Mutators[0].Stack, x.a) || !slices.Equal(x.w.Mutators[1].Stack, x.b) {
			t.Errorf("%d: %+v", i, x.w.Mutators)
		}
	}
}

// TestNoneIsKept is of P21.3: what is answered stays, when other turns come.
func TestNoneIsKept(t *testing.T) {
	for seed := range 100 {
		number := testheap.Numbers(seed)
		w := newWorld(1+seed%3, 2)
		var all, keep []api.World
		for range 60 {
			who := number(2)
			w, _ = mut.Turn(w, who, anyOp(number, w.Mutators[who]))
			if number(3) == 0 {
				w, _ = cycle.Marker(w)
			}
			all, keep = append(all, w), append(keep, testheap.KeptWorld(w))
		}
		for i, x := range all {
			for who := range 2 {
				mut.Turn(x, who, anyOp(number, x.Mutators[who]))
			}
			if !testheap.UntouchedWorld(x, keep[i]) {
				t.Fatalf("%+v; that was %+v", x, keep[i])
			}
		}
	}
}

// FuzzMut is of P21.1 and P21.3, of whatever words, mutators and operations come: two bytes are a word.
func FuzzMut(f *testing.F) {
	f.Add([]byte{1, 2, 0}, []byte{0, 129, 0, 66, 0, 129, 0, 4}, 3, 0, 1, 0, 0, true)
	f.Add([]byte{8, 5, 4, 7}, []byte{0, 191, 0, 2, 0, 66, 0, 129, 1, 2}, 7, 2, 0, 14, 1, false)
	f.Add([]byte{}, []byte{}, 16, -1, 7, -1, -1, true)
	f.Fuzz(func(t *testing.T, pages, words []byte, seed, kind, a, b, c int, sense bool) {
		number := testheap.Numbers(seed)
		h := testheap.OfBytes(pages, words)
		w := testheap.AnyInPlay(number, len(h.Spans))
		// Pages that are in a cache stay; all else is as the bytes tell.
		for page := range h.Spans {
			if !testheap.Stands(testheap.CachesOf(w), page) {
				w.Heap.Spans[page] = h.Spans[page]
			}
		}
		w.Heap.Words, w.Heap.Sense = h.Words, sense
		w.Marker.Obj, w.Marker.Field = -1, 0
		for who, m := range w.Mutators {
			for _, o := range []api.Op{{Kind: kind, A: a, B: b, C: c}, anyOp(number, m)} {
				mustFollow(t, w, who, o)
				mustBeNew(t, testheap.KeptWorld(w), who, o)
			}
		}
	})
}
