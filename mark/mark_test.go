package mark_test

import (
	"math"
	"slices"
	"testing"

	"flotsam/api"
	"flotsam/heap"
	"flotsam/mark"
	"flotsam/object"
	"flotsam/testheap"
)

func ref(n int) api.Value { return api.Value{Kind: api.Ref, N: n} }

func num(n int) api.Value { return api.Value{Kind: api.Int, N: n} }

// refsTo answers Refs to those addresses.
var refsTo = testheap.RefsTo

// idle answers a marker of one row that has so much room, in which nothing is left to be done.
func idle(room int) api.Marker {
	return api.Marker{Grey: testheap.Row(room), Obj: -1, Cursor: -1}
}

// rowsOf answers rows, with room behind them that looks like one more in which there is something.
func rowsOf(rows ...api.Grey) []api.Grey {
	return testheap.WithRoom(rows, testheap.Row(1, 0))
}

// moment is a heap, and a marker beside it.
type moment struct {
	heap   api.Heap
	marker api.Marker
}

// kept answers a moment as s is, of memory of its own, with the room behind its lists.
func kept(s moment) moment {
	return moment{testheap.Kept(s.heap), testheap.KeptMarker(s.marker)}
}

// same tells whether two moments are the same, their lists item by item.
func same(a, b moment) bool {
	return testheap.Same(a.heap, b.heap) && testheap.SameMarker(a.marker, b.marker)
}

// untouched tells whether s is as it was kept, the room behind its lists included.
func untouched(s, was moment) bool {
	return testheap.Untouched(s.heap, was.heap) && testheap.UntouchedMarker(s.marker, was.marker)
}

// scrawl writes over those lists of s that are otherwise than in another moment.
func scrawl(s, other moment) {
	if !testheap.Same(s.heap, other.heap) {
		testheap.Scrawl(s.heap)
	}
	testheap.ScrawlOtherwise(s.marker, other.marker)
}

// shadeWith shades a value with a row, by the chapters' words alone.
func (s *moment) shadeWith(row *api.Grey, v api.Value) {
	if _, over := testheap.Shade(&s.heap, row, v); over {
		s.marker.Over = true
	}
}

// stepped answers, by the chapter's words alone, what is behind a step, and whether marking is done.
func stepped(was moment) (moment, bool) {
	h, m, done := testheap.Stepped(was.heap, was.marker)
	return moment{h, m}, done
}

// mustStep fails, if Step answers anything else than the chapter tells, or changes what it is handed.
func mustStep(t *testing.T, s moment) (moment, bool) {
	t.Helper()
	was := kept(s)
	want, end := stepped(s)
	h, m, done := mark.Step(s.heap, s.marker)
	if got := (moment{h, m}); done != end || !same(got, want) {
		t.Fatalf("Step(%+v): %+v, %t; not %+v, %t", was, got, done, want, end)
	}
	if !untouched(s, was) {
		t.Fatalf("Step: %+v; that was %+v", s, was)
	}
	return moment{h, m}, done
}

// mustNote fails, if Note answers anything else than the chapter tells, or changes what it is handed.
func mustNote(t *testing.T, s moment, who int, v api.Value) moment {
	t.Helper()
	was, want := kept(s), kept(s)
	want.shadeWith(&want.marker.Barriers[who], v)
	h, m := mark.Note(s.heap, s.marker, who, v)
	if got := (moment{h, m}); !same(got, want) {
		t.Fatalf("Note(%+v, %d, %v): %+v; not %+v", was, who, v, got, want)
	}
	if !untouched(s, was) {
		t.Fatalf("Note(.., %d, %v): %+v; that was %+v", who, v, s, was)
	}
	return moment{h, m}
}

// mustEnd fails, if marking isn't done within so many steps, or a marker isn't right by the way. It answers what is behind
// them all, and how many there were.
func mustEnd(t *testing.T, s moment, most int) (moment, int) {
	t.Helper()
	for steps := 0; steps <= most; steps++ {
		if !mark.Right(s.heap, s.marker) {
			t.Fatalf("behind %d steps: Right(%+v): false", steps, s)
		}
		h, m, done := mark.Step(s.heap, s.marker)
		if done {
			return s, steps
		}
		s = moment{h, m}
	}
	t.Fatalf("marking isn't done within %d steps: %+v", most, s)
	return s, 0
}

// addressesOf answers the addresses of a heap's objects: of all, or of the black ones alone.
func addressesOf(h api.Heap, blackAlone bool) []int {
	var l []int
	for at := range h.Words {
		if x := testheap.HeaderAt(h, at); x.Used && (!blackAlone || x.Colour == h.Sense) {
			l = append(l, at)
		}
	}
	return l
}

// mostSteps is within how many steps the chapter tells that marking is done.
func mostSteps(s moment) int {
	n, i := len(addressesOf(s.heap, false)), len(s.marker.Grey.Items)
	for _, g := range s.marker.Barriers {
		i += len(g.Items)
	}
	return (n+3)*(17*n+8) + len(s.marker.Roots) + 17*i + 20
}

// newMarker answers New's marker.
func newMarker(t *testing.T, room int, barriers []int, vs []api.Value) api.Marker {
	t.Helper()
	m, ok := mark.New(room, barriers, vs)
	if !ok {
		t.Fatalf("New(%d, %v, ..): false", room, barriers)
	}
	return m
}

// TestExample is of P17.2: the chapter's example.
func TestExample(t *testing.T) {
	h, _ := heap.New(1)
	h, _ = heap.Open(h, 0, 0)
	h, at, _ := heap.Lay(h, 0, 0)
	h.Sense = true
	h, m, done := mark.Step(h, newMarker(t, 1, []int{1}, []api.Value{ref(at)}))
	if done || !object.Black(h, at) || !slices.Equal(m.Grey.Items, []int{at}) || len(m.Roots) != 0 || m.Over {
		t.Fatalf("shaded: %+v, %t", m, done)
	}
	h, m, done = mark.Step(h, m)
	if done || len(m.Grey.Items) != 0 || m.Obj != -1 || m.Field != 0 {
		t.Fatalf("popped: %+v, %t", m, done)
	}
	if _, _, done = mark.Step(h, m); !done {
		t.Fatalf("not done: %+v", m)
	}
}

// TestNew is of P17.1: rows of each room, as many as there are, values of all kinds; nothing else is otherwise than idle.
func TestNew(t *testing.T) {
	lists := [][]int{nil, {}, {0}, {16}, {1, 0, 16, 8}, slices.Repeat([]int{8}, 8), slices.Repeat([]int{3, 16}, 50)}
	for room := range 17 {
		lists = append(lists, []int{room}, []int{5, room})
	}
	for _, barriers := range lists {
		var rows []api.Grey
		for _, r := range barriers {
			rows = append(rows, api.Grey{Room: r})
		}
		for room := range 17 {
			for _, vs := range [][]api.Value{nil, refsTo(), refsTo(3, 3, -1, 600), {{}, num(4), {Kind: 9, N: -7}, ref(math.MaxInt), {N: 5}}} {
				want := api.Marker{Grey: api.Grey{Room: room}, Barriers: rows, Roots: vs, Obj: -1, Cursor: -1}
				m, ok := mark.New(room, testheap.WithRoom(barriers, 17), vs)
				if !ok || !testheap.SameMarker(m, want) {
					t.Fatalf("New(%d, %v, %v): %+v, %t", room, barriers, vs, m, ok)
				}
				if !mark.Right(testheap.Mixed(), m) {
					t.Fatalf("New(%d, %v, %v) isn't right: %+v", room, barriers, vs, m)
				}
			}
		}
	}
}

// wrongRooms are numbers that are no row's room.
func wrongRooms() []int { return append([]int{17, 18, 32, 256, 256 + 1, 256 + 16}, testheap.Far()...) }

// TestNewOfWrongRooms is of P17.1: the marker's row, or a mutator's, the first, the last, or one between.
func TestNewOfWrongRooms(t *testing.T) {
	for _, room := range wrongRooms() {
		for _, x := range []struct {
			room     int
			barriers []int
		}{
			{room, nil}, {room, []int{1, 2}}, {room, []int{room}}, {1, []int{room}}, {0, []int{room, 1}}, {16, []int{1, room}}, {2, []int{0, 16, room, 3, 5}},
		} {
			m, ok := mark.New(x.room, x.barriers, refsTo(0, 2))
			if ok || !testheap.SameMarker(m, api.Marker{}) {
				t.Errorf("New(%d, %v, ..): %+v, %t", x.room, x.barriers, m, ok)
			}
		}
	}
}

// TestNewMarkersMemory is of P17.4: a new marker's lists are nobody else's.
func TestNewMarkersMemory(t *testing.T) {
	barriers, vs := testheap.WithRoom([]int{3, 0, 7}, 1), refsTo(4, 2)
	one, two := newMarker(t, 5, barriers, vs), newMarker(t, 5, barriers, vs)
	want := testheap.KeptMarker(two)
	testheap.ScrawlOtherwise(one, api.Marker{})
	if !slices.Equal(testheap.Whole(barriers), []int{3, 0, 7, 1, 1, 1}) || !slices.Equal(testheap.Whole(vs), append(refsTo(4, 2), refsTo(0, 0, 0)...)) {
		t.Errorf("written into a new marker: %v, %v", barriers, vs)
	}
	barriers[1], vs[0] = 9, num(9)
	if !testheap.SameMarker(two, want) {
		t.Errorf("another marker: %+v; that was %+v", two, want)
	}
}

// TestRight is of P17.1: each object in hand by each of its fields, each cursor, rows of all kinds, whatever the roots are.
func TestRight(t *testing.T) {
	h := testheap.Mixed()
	for _, sense := range []bool{true, false} {
		h.Sense = sense
		for at := range h.Words {
			for field := range testheap.HeaderAt(h, at).Count {
				mustBeRight(t, h, api.Marker{Obj: at, Field: field, Cursor: -1})
			}
		}
		for cursor := -1; cursor <= len(h.Words); cursor++ {
			mustBeRight(t, h, api.Marker{Obj: -1, Cursor: cursor})
		}
	}
	for _, over := range []bool{true, false} {
		mustBeRight(t, h, api.Marker{Obj: 144, Field: 14, Cursor: 160, Over: over, Roots: []api.Value{{Kind: -3, N: -9}, ref(-1), ref(math.MinInt)}})
		mustBeRight(t, h, api.Marker{Grey: testheap.Row(2, 7, 1<<40), Barriers: rowsOf(testheap.Row(0), testheap.Row(16, 4, 4), testheap.Row(1, 999)), Obj: -1, Cursor: 0, Over: over})
		mustBeRight(t, h, api.Marker{Barriers: slices.Repeat([]api.Grey{testheap.Row(16, 3)}, 40), Obj: -1, Cursor: -1, Over: over})
	}
	for seed := range 100 {
		number := testheap.Numbers(seed)
		h := testheap.AnyHeap(number, 1+seed%16)
		mustBeRight(t, h, testheap.AnyMarker(number, h))
	}
}

// mustBeRight fails, if a marker isn't right.
func mustBeRight(t *testing.T, h api.Heap, m api.Marker) {
	t.Helper()
	if !mark.Right(h, m) {
		t.Errorf("Right(.., %+v): false", m)
	}
}

// mustBeWrong fails, if a marker is right.
func mustBeWrong(t *testing.T, h api.Heap, m api.Marker) {
	t.Helper()
	if mark.Right(h, m) {
		t.Errorf("Right(.., %+v): true", m)
	}
}

// TestWrongRows is of P17.1: a row that isn't right, be it the marker's, or a mutator's at any place.
func TestWrongRows(t *testing.T) {
	h := testheap.Mixed()
	rows := []api.Grey{testheap.Row(0, 4), testheap.Row(2, 4, 4, 4), testheap.Row(16, -1), testheap.Row(3, 5, math.MinInt, 5)}
	for _, room := range wrongRooms() {
		rows = append(rows, testheap.Row(room))
	}
	for _, g := range rows {
		m := idle(16)
		m.Grey = g
		mustBeWrong(t, h, m)
		for n := 1; n <= 5; n++ {
			for place := range n {
				m := idle(16)
				m.Barriers = slices.Repeat([]api.Grey{testheap.Row(4, 4)}, n)
				mustBeRight(t, h, m)
				m.Barriers[place] = g
				mustBeWrong(t, h, m)
			}
		}
	}
	m := idle(16)
	m.Barriers = testheap.WithRoom([]api.Grey{testheap.Row(1)}, testheap.Row(17))
	mustBeRight(t, h, m)
}

// TestWrongHand is of P17.1: fields of objects that have no such one, of what is no object, of nothing.
func TestWrongHand(t *testing.T) {
	h := testheap.Mixed()
	for _, field := range append([]int{1, 2, 7, 15, 16}, testheap.Far()...) {
		mustBeWrong(t, h, api.Marker{Obj: -1, Field: field, Cursor: -1})
		mustBeWrong(t, h, api.Marker{Obj: 0, Field: field, Cursor: -1})
		mustBeWrong(t, h, api.Marker{Obj: 4, Field: field, Cursor: -1})
	}
	mustBeWrong(t, h, api.Marker{Obj: 4, Cursor: -1})
	for _, at := range slices.Concat(testheap.MixedWhites(), testheap.MixedBlacks()) {
		count := testheap.HeaderAt(h, at).Count
		mustBeWrong(t, h, api.Marker{Obj: at, Field: count, Cursor: -1})
		mustBeWrong(t, h, api.Marker{Obj: at, Field: -1, Cursor: -1})
	}
	for _, at := range testheap.MixedNoObjects() {
		if at != -1 {
			mustBeWrong(t, h, api.Marker{Obj: at, Cursor: -1})
			mustBeWrong(t, h, api.Marker{Obj: at, Field: 1, Cursor: -1})
		}
	}
}

// TestWrongCursor is of P17.1: below -1, and behind the number of words, whatever is in hand.
func TestWrongCursor(t *testing.T) {
	for _, pages := range []int{1, 2, 16} {
		h := testheap.Blank(slices.Repeat([]api.Span{{State: api.SpanClean}}, pages)...)
		testheap.Write(h, 0, 129)
		mustBeRight(t, h, api.Marker{Obj: 0, Cursor: 32 * pages})
		for _, cursor := range []int{-2, -3, -32, 32*pages + 1, 32*pages + 2, 1024, 1 << 32, -1 << 32, math.MaxInt, math.MinInt, math.MinInt + 1} {
			mustBeWrong(t, h, api.Marker{Obj: -1, Cursor: cursor})
			mustBeWrong(t, h, api.Marker{Obj: 0, Cursor: cursor})
		}
	}
}

// TestDone is of P17.2: where nothing is left to be done, all is answered as it was, be there black objects, or white ones.
func TestDone(t *testing.T) {
	for room := range 17 {
		for _, sense := range []bool{true, false} {
			s := moment{testheap.Mixed(), idle(room)}
			s.heap.Sense = sense
			s.marker.Barriers, s.marker.Roots = rowsOf(testheap.Row(3), testheap.Row(0)), refsTo()
			want := kept(s)
			h, m, done := mark.Step(s.heap, s.marker)
			if !done {
				t.Errorf("Step(.., %+v): false", s.marker)
			}
			mustBe(t, "done", moment{h, m}, want)
		}
	}
}

// apart answers a heap of four white objects that lie apart, at 0, 4, 8 and 12, each of three fields: those of the first one
// lead to the others, that of the second one to itself; at 16 is a white one without fields; all else is free.
func apart() api.Heap {
	h := testheap.Blank(api.Span{State: api.SpanClean, Class: 1, Free: 0xe0})
	h.Sense = true
	testheap.Write(h, 0, 147, testheap.RefTo(4), testheap.RefTo(8), testheap.RefTo(12))
	testheap.Write(h, 4, 147, 0, testheap.RefTo(4), 3)
	testheap.Write(h, 8, 147, testheap.RefTo(5), testheap.RefTo(20), testheap.RefTo(1<<40))
	testheap.Write(h, 12, 147, 0, 0, 0)
	testheap.Write(h, 16, 144)
	return h
}

// behind answers the moment behind steps, one behind the other, none of which may find that marking is done.
func behind(t *testing.T, s moment, steps int) moment {
	t.Helper()
	for i := range steps {
		h, m, done := mark.Step(s.heap, s.marker)
		if done {
			t.Fatalf("done behind %d steps: %+v", i, m)
		}
		s = moment{h, m}
	}
	return s
}

// blackened answers a heap as h is, but with other words for the headers at those addresses.
func blackened(h api.Heap, addresses ...int) api.Heap {
	n := testheap.Kept(h)
	for _, at := range addresses {
		n.Words[at] ^= testheap.Colour
	}
	return n
}

// mustBe fails, if a moment is another than that.
func mustBe(t *testing.T, what string, s, want moment) {
	t.Helper()
	if !same(s, want) {
		t.Errorf("%s: %+v; not %+v", what, s, want)
	}
}

// TestFieldByField is of P17.2: the step 1, by hand: each field of the one in hand, with the marker's row; over, where that
// has no room; the last one leaves nothing in hand.
func TestFieldByField(t *testing.T) {
	for room, want := range [][]struct {
		items []int
		over  bool
	}{
		{{nil, true}, {nil, true}, {nil, true}},
		{{[]int{4}, false}, {[]int{4}, true}, {[]int{4}, true}},
		{{[]int{4}, false}, {[]int{4, 8}, false}, {[]int{4, 8}, true}},
		{{[]int{4}, false}, {[]int{4, 8}, false}, {[]int{4, 8, 12}, false}},
	} {
		s := moment{apart(), idle(room)}
		s.marker.Obj, s.marker.Field = 0, 0
		for i, x := range want {
			s = behind(t, s, 1)
			m := idle(room)
			m.Grey.Items, m.Over = x.items, x.over
			if i < 2 {
				m.Obj, m.Field = 0, i+1
			}
			mustBe(t, "field by field", s, moment{blackened(apart(), []int{4, 8, 12}[:i+1]...), m})
		}
	}
}

// TestFieldsThatShadeNothing is of P17.2: the step 1 of Nil, of a number, of what leads to no object, or to a black one: it
// is done with like any other field, and the row stays; over stays over.
func TestFieldsThatShadeNothing(t *testing.T) {
	for _, at := range []int{8, 12, 4} {
		for _, over := range []bool{true, false} {
			s := moment{blackened(apart(), 4), idle(2)}
			s.marker.Grey = testheap.Row(2, 16)
			s.marker.Obj, s.marker.Over = at, over
			for i := range 3 {
				want := kept(s)
				if want.marker.Field++; i == 2 {
					want.marker.Obj, want.marker.Field = -1, 0
				}
				s = behind(t, s, 1)
				mustBe(t, "shades nothing", s, want)
			}
		}
	}
}

// TestOneThatRefersToItself is of P17.2: the step 1 shades the one in hand itself, where it is white still.
func TestOneThatRefersToItself(t *testing.T) {
	s := moment{apart(), idle(1)}
	s.marker.Obj, s.marker.Field = 4, 1
	want := idle(1)
	want.Obj, want.Field, want.Grey.Items = 4, 2, []int{4}
	mustBe(t, "to itself", behind(t, s, 1), moment{blackened(apart(), 4), want})
}

// TestPopped is of P17.2: the steps 2 and 3, by hand: the last one of a row goes; it is in hand, if it has fields; it isn't
// painted, whatever its colour is.
func TestPopped(t *testing.T) {
	h := testheap.Mixed()
	for _, x := range []struct{ at, obj int }{
		{0, 0}, {2, 2}, {4, -1}, {6, -1}, {8, 8}, {26, 26}, {27, -1}, {32, -1}, {64, 64}, {65, -1}, {92, -1}, {96, 96}, {112, -1}, {128, 128}, {144, 144}, {160, -1}, {1 << 40, -1},
	} {
		want := idle(3)
		want.Grey, want.Obj = testheap.Row(3, 68, 10), x.obj
		s := moment{h, idle(3)}
		s.marker.Grey = testheap.Row(3, 68, 10, x.at)
		mustBe(t, "popped", behind(t, s, 1), moment{h, want})

		want.Grey, want.Barriers = testheap.Row(3), rowsOf(testheap.Row(1), testheap.Row(2, 68), testheap.Row(4, 10, 64))
		s.marker.Grey, s.marker.Barriers = testheap.Row(3), rowsOf(testheap.Row(1), testheap.Row(2, 68, x.at), testheap.Row(4, 10, 64))
		mustBe(t, "popped of a mutator's", behind(t, s, 1), moment{h, want})
	}
}

// TestMutatorsRows is of P17.2: the step 3 empties them one behind the other, each from its end on, whatever else is left.
func TestMutatorsRows(t *testing.T) {
	s := moment{apart(), idle(0)}
	s.marker.Barriers = rowsOf(testheap.Row(8), testheap.Row(8, 16, 16), testheap.Row(8), testheap.Row(8, 16), testheap.Row(8, 16, 30, 16))
	for _, left := range [][]int{{0, 1, 0, 1, 3}, {0, 0, 0, 1, 3}, {0, 0, 0, 0, 3}, {0, 0, 0, 0, 2}, {0, 0, 0, 0, 1}, {0, 0, 0, 0, 0}} {
		s = behind(t, s, 1)
		for who, n := range left {
			if !slices.Equal(s.marker.Barriers[who].Items, []int{16, 30, 16}[:n]) && n > 0 || len(s.marker.Barriers[who].Items) != n {
				t.Errorf("the row %d: %+v; not %d", who, s.marker.Barriers[who], n)
			}
		}
	}
	mustStep(t, s)
}

// TestRootByRoot is of P17.2: the step 4, by hand: the first one is taken out, and shaded with the marker's row.
func TestRootByRoot(t *testing.T) {
	s := moment{apart(), idle(1)}
	s.marker.Roots = append(refsTo(16), num(0), ref(20), api.Value{}, ref(4), ref(16))
	s = behind(t, s, 1)
	want := idle(1)
	want.Grey.Items, want.Roots = []int{16}, s.marker.Roots
	mustBe(t, "the first root", s, moment{blackened(apart(), 16), want})
	if !slices.Equal(s.marker.Roots, []api.Value{num(0), ref(20), {}, ref(4), ref(16)}) {
		t.Errorf("the other roots: %v", s.marker.Roots)
	}
	s = behind(t, s, 1+3)
	want.Grey.Items, want.Roots = nil, refsTo(4, 16)
	mustBe(t, "roots that shade nothing", s, moment{blackened(apart(), 16), want})
	s = behind(t, s, 1+1+3)
	want.Roots = refsTo(16)
	mustBe(t, "the root 4", s, moment{blackened(apart(), 16, 4), want})
	s = behind(t, s, 1)
	want.Roots = nil
	mustBe(t, "the last root, that is black", s, moment{blackened(apart(), 16, 4), want})
	if _, done := mustStep(t, s); !done {
		t.Errorf("not done behind all roots: %+v", s)
	}
}

// TestRootsWithoutRoom is of P17.2: the step 4 is over, where the marker's row has no room; but not by what shades nothing.
func TestRootsWithoutRoom(t *testing.T) {
	s := moment{apart(), idle(0)}
	s.marker.Roots = append(refsTo(20), num(4), ref(12), ref(16), ref(-1))
	for i, x := range []struct {
		blacks []int
		over   bool
	}{{nil, false}, {nil, false}, {[]int{12}, true}, {[]int{12, 16}, true}, {[]int{12, 16}, true}} {
		want := idle(0)
		want.Roots, want.Over = s.marker.Roots[1:], x.over
		s = behind(t, s, 1)
		mustBe(t, "a root without room", s, moment{blackened(apart(), x.blacks...), want})
		if len(s.marker.Roots) != 4-i {
			t.Errorf("roots: %v", s.marker.Roots)
		}
	}
}

// TestCursor is of P17.2: the step 5, by hand: from each cursor on the least black one, and none behind the last.
func TestCursor(t *testing.T) {
	for _, sense := range []bool{true, false} {
		h := testheap.Mixed()
		h.Sense = sense
		blacks := testheap.MixedBlacks()
		if !sense {
			blacks = testheap.MixedWhites()
		}
		for cursor := range len(h.Words) + 1 {
			for _, over := range []bool{true, false} {
				s, want := moment{h, idle(2)}, moment{h, idle(2)}
				s.marker.Cursor, s.marker.Over, want.marker.Over = cursor, over, over
				if i, _ := slices.BinarySearch(blacks, cursor); i < len(blacks) {
					want.marker.Cursor = blacks[i] + 1
					if want.marker.Obj = blacks[i]; want.marker.Obj == 4 {
						want.marker.Obj = -1
					}
				}
				mustBe(t, "at a cursor", behind(t, s, 1), want)
			}
		}
	}
}

// TestCursorAtTheEnd is of P17.2: the step 5 of the very last word: an object is there, and the cursor is as many as there
// are words; from there on none is.
func TestCursorAtTheEnd(t *testing.T) {
	h := testheap.Blank(api.Span{State: api.SpanClean, Class: 0})
	testheap.Write(h, 30, 129, 3)
	s, want := moment{h, idle(0)}, moment{h, idle(0)}
	s.marker.Cursor = 30
	want.marker.Obj, want.marker.Cursor = 30, 31
	mustBe(t, "the last block", behind(t, s, 1), want)
	s.marker.Cursor, want.marker.Obj, want.marker.Cursor = 32, -1, -1
	mustBe(t, "behind all words", behind(t, s, 1), want)
}

// TestOver is of P17.2: the step 6, by hand, and what comes of it: all black ones once more, from the first word on.
func TestOver(t *testing.T) {
	h := blackened(apart(), 12, 16)
	s := moment{h, idle(0)}
	s.marker.Over = true
	for i, x := range []struct{ obj, field, cursor int }{
		{-1, 0, 0}, {12, 0, 13}, {12, 1, 13}, {12, 2, 13}, {-1, 0, 13}, {-1, 0, 17}, {-1, 0, -1},
	} {
		s = behind(t, s, 1)
		want := idle(0)
		want.Obj, want.Field, want.Cursor = x.obj, x.field, x.cursor
		mustBe(t, "over", s, moment{h, want})
		if t.Failed() {
			t.Fatalf("the step %d", i)
		}
	}
	if _, done := mustStep(t, s); !done {
		t.Errorf("not done: %+v", s)
	}
}

// TestOverAnew is of P17.2: what is over while black objects are looked for is looked for once more, from the first word on.
func TestOverAnew(t *testing.T) {
	s := moment{blackened(apart(), 0), idle(0)}
	s.marker.Cursor = 0
	// 0 in hand and its three fields; then the others, and none; over, and all of it again.
	s = behind(t, s, 4)
	want := idle(0)
	want.Cursor, want.Over = 1, true
	mustBe(t, "over by the way", s, moment{blackened(apart(), 0, 4, 8, 12), want})
	s = behind(t, s, 3*4+1)
	want.Cursor = -1
	mustBe(t, "behind all of them", s, moment{blackened(apart(), 0, 4, 8, 12), want})
	s = behind(t, s, 1)
	want.Cursor, want.Over = 0, false
	mustBe(t, "once more", s, moment{blackened(apart(), 0, 4, 8, 12), want})
	s, steps := mustEnd(t, s, 100)
	want.Cursor = -1
	mustBe(t, "at the end", s, moment{blackened(apart(), 0, 4, 8, 12), want})
	if steps != 4*4+1 {
		t.Errorf("%d steps", steps)
	}
}

// TestOrder is of P17.2: of a marker that could do each of the steps, the first is done; then the next one, and so on.
func TestOrder(t *testing.T) {
	h := blackened(apart(), 16)
	m := idle(3)
	m.Grey, m.Barriers = testheap.Row(3, 24), rowsOf(testheap.Row(1), testheap.Row(1, 28), testheap.Row(1, 30))
	m.Roots, m.Obj, m.Field, m.Cursor, m.Over = []api.Value{num(3), {}}, 12, 2, 14, true
	s, want := moment{h, m}, moment{h, testheap.KeptMarker(m)}
	for _, change := range []func(m *api.Marker){
		func(m *api.Marker) { m.Obj, m.Field = -1, 0 },
		func(m *api.Marker) { m.Grey.Items = nil },
		func(m *api.Marker) { m.Barriers[1].Items = nil },
		func(m *api.Marker) { m.Barriers[2].Items = nil },
		func(m *api.Marker) { m.Roots = m.Roots[1:] },
		func(m *api.Marker) { m.Roots = nil },
		func(m *api.Marker) { m.Cursor = 17 },
		func(m *api.Marker) { m.Cursor = -1 },
		func(m *api.Marker) { m.Over, m.Cursor = false, 0 },
		func(m *api.Marker) { m.Cursor = 17 },
		func(m *api.Marker) { m.Cursor = -1 },
	} {
		change(&want.marker)
		s = behind(t, s, 1)
		mustBe(t, "in their order", s, want)
	}
	if _, done := mustStep(t, s); !done {
		t.Errorf("not done: %+v", s)
	}
}

// TestEachStep is of P17.2: step by step to the end, of heaps of any words, and of markers of all kinds beside them.
func TestEachStep(t *testing.T) {
	for seed := range 150 {
		number := testheap.Numbers(seed)
		h := testheap.AnyHeap(number, 1+seed%16)
		s, done := moment{h, testheap.AnyMarker(number, h)}, false
		for steps := 0; !done && steps < 300; steps++ {
			s, done = mustStep(t, s)
		}
	}
	for seed := range 3000 {
		number := testheap.Numbers(seed)
		h := testheap.AnyHeap(number, 1+seed%3)
		mustStep(t, moment{h, testheap.AnyMarker(number, h)})
	}
}

// TestNote is of P17.2: each mutator's row, worked out by hand; the other rows stay, the marker's too, and what is in hand.
func TestNote(t *testing.T) {
	m := idle(3)
	m.Grey, m.Roots, m.Obj, m.Field, m.Cursor = testheap.Row(3, 16), refsTo(8), 0, 1, 5
	m.Barriers = rowsOf(testheap.Row(2, 16), testheap.Row(1, 16), testheap.Row(0), testheap.Row(16))
	for who, items := range [][]int{{16, 4}, {16}, nil, {4}} {
		for _, over := range []bool{true, false} {
			m.Over = over
			want := testheap.KeptMarker(m)
			want.Barriers[who].Items = items
			want.Over = over || who == 1 || who == 2
			h, n := mark.Note(apart(), m, who, ref(4))
			mustBe(t, "noted", moment{h, n}, moment{blackened(apart(), 4), want})
		}
	}
}

// TestNoteOfNothing is of P17.2: of what is no white object nothing is noted, be there room or not; over stays as it was.
func TestNoteOfNothing(t *testing.T) {
	h := testheap.Mixed()
	vs := append(refsTo(testheap.MixedNoObjects()...), refsTo(testheap.MixedBlacks()...)...)
	for _, kind := range append([]int{0, 1, 3, 4, 258, 1<<32 + 2}, testheap.Far()...) {
		vs = append(vs, api.Value{Kind: kind, N: 0}, api.Value{Kind: kind, N: 64})
	}
	for _, over := range []bool{true, false} {
		m := idle(1)
		m.Over, m.Barriers = over, rowsOf(testheap.Row(0), testheap.Row(1, 3), testheap.Row(2, 3), testheap.Row(8))
		for who := range m.Barriers {
			for _, v := range vs {
				gotHeap, got := mark.Note(h, m, who, v)
				mustBe(t, "noted nothing", moment{gotHeap, got}, moment{h, m})
			}
		}
	}
}

// TestNoteOfNobody is of P1: a number that is no mutator's lets Note end all the same.
func TestNoteOfNobody(t *testing.T) {
	for _, who := range append([]int{2, 3, 8}, testheap.Far()...) {
		m := idle(1)
		m.Barriers = rowsOf(testheap.Row(1), testheap.Row(1))
		mark.Note(apart(), m, who, ref(0))
		mark.Note(apart(), idle(1), who, ref(0))
	}
}

// TestEachNote is of P17.2: whatever is noted, of heaps of any words, and between steps.
func TestEachNote(t *testing.T) {
	for seed := range 300 {
		number := testheap.Numbers(seed)
		h := testheap.AnyHeap(number, 1+seed%16)
		s := moment{h, testheap.AnyMarker(number, h)}
		for range 40 {
			for who := range s.marker.Barriers {
				for _, v := range testheap.AnyValues(number, h) {
					s = mustNote(t, s, who, v)
				}
			}
			s, _ = mustStep(t, s)
			if !mark.Right(s.heap, s.marker) {
				t.Fatalf("seed %d: Right(%+v): false", seed, s)
			}
		}
	}
}

// TestEnds is of P17.3: of markers of all kinds marking is done in time, and a marker that is right stays right.
func TestEnds(t *testing.T) {
	for seed := range 400 {
		number := testheap.Numbers(seed)
		h := testheap.AnyApart(number, 1+seed%8)
		s := moment{h, testheap.AnyMarker(number, h)}
		end, _ := mustEnd(t, s, mostSteps(s))
		if m := end.marker; m.Over || m.Obj != -1 || m.Cursor != -1 || len(m.Roots) != 0 || len(m.Grey.Items) != 0 {
			t.Fatalf("seed %d: done, with something left: %+v", seed, m)
		}
	}
}

// mustMark fails, if of all that is white, from those roots on, anything else becomes black than what is reached, or not in
// time, or anything else of the heap is otherwise.
func mustMark(t *testing.T, h api.Heap, room int, vs []api.Value) {
	t.Helper()
	reached := testheap.Reached(h, vs)
	s := moment{h, newMarker(t, room, []int{room, 0}, vs)}
	end, _ := mustEnd(t, s, mostSteps(s))
	if got := addressesOf(end.heap, true); !slices.Equal(got, reached) {
		t.Fatalf("of the room %d: %v are black; not %v", room, got, reached)
	}
	if !testheap.Same(end.heap, blackened(h, reached...)) {
		t.Fatalf("of the room %d: %+v; that was %+v", room, end.heap, h)
	}
}

// TestJustWhatIsReached is of P17.3: of heaps of all kinds, whose objects lie apart, with much room and with little.
func TestJustWhatIsReached(t *testing.T) {
	for seed := range 200 {
		number := testheap.Numbers(seed)
		h := testheap.AnyApart(number, 1+seed%6)
		vs := append(testheap.AnyValues(number, h), testheap.AnyValues(number, h)...)
		if all := addressesOf(h, false); len(all) > 0 {
			vs = append(vs, ref(all[number(len(all))]))
		}
		for _, room := range []int{0, 1, 2, 16} {
			mustMark(t, h, room, vs)
		}
	}
}

// TestReachedFromEach is of P17.3: from each object of a heap, worked out by hand, and from none.
func TestReachedFromEach(t *testing.T) {
	for room := range 17 {
		for at, blacks := range map[int][]int{0: {0, 4, 8, 12}, 4: {4}, 8: {8}, 12: {12}, 16: {16}, 1: nil, 20: nil} {
			s := moment{apart(), newMarker(t, room, []int{1}, refsTo(at))}
			end, _ := mustEnd(t, s, mostSteps(s))
			mustBe(t, "at the end", end, moment{blackened(apart(), blacks...), newMarker(t, room, []int{1}, nil)})
		}
	}
}

// TestLongChains is of P17.3: each object leads to the one ahead of it, so that with no room each round finds but one more.
func TestLongChains(t *testing.T) {
	for _, pages := range []int{1, 4} {
		for class := range api.Classes {
			h := testheap.Blank(slices.Repeat([]api.Span{{State: api.SpanDirty, Class: class}}, pages)...)
			h.Sense = true
			words := testheap.WordsOf(class)
			for at := 0; at < len(h.Words); at += words {
				testheap.Write(h, at, uint64(128+16*class+words-1))
				h.Words[at+words-1] = testheap.RefTo((at - words + len(h.Words)) % len(h.Words))
			}
			for _, room := range []int{0, 1, 16} {
				mustMark(t, h, room, refsTo(len(h.Words)-words))
				mustMark(t, h, room, refsTo(0))
			}
		}
	}
}

// TestAllToAll is of P17.3: each object leads to fifteen others, more than most rows have room for.
func TestAllToAll(t *testing.T) {
	h := testheap.Blank(slices.Repeat([]api.Span{{State: api.SpanClean, Class: 3}}, 16)...)
	h.Sense = true
	for at := 0; at < len(h.Words); at += 16 {
		h.Words[at] = 128 + 16*3 + 15
		for i := range 15 {
			h.Words[at+1+i] = testheap.RefTo((at + 32*(i+1)) % len(h.Words))
		}
	}
	for _, room := range []int{0, 1, 5, 15, 16} {
		mustMark(t, h, room, refsTo(496))
		mustMark(t, h, room, refsTo(16, 0))
	}
}

// TestManyRoots is of P17.3: more of them than there are objects, most of them black by then, or none's.
func TestManyRoots(t *testing.T) {
	vs := slices.Repeat(append(refsTo(4, 16, 4, 20, -1), num(8), api.Value{}), 300)
	for room := range 3 {
		mustMark(t, apart(), room, vs)
	}
}

// mustBeNew fails, if what of a call's answer is otherwise than it was handed in shares memory with that, or with another
// answer. It writes over what it is handed.
func mustBeNew(t *testing.T, s moment, call func(moment) moment) {
	t.Helper()
	was := kept(s)
	one, two := call(s), call(s)
	want := kept(two)
	scrawl(one, was)
	if !untouched(s, was) || !same(two, want) {
		t.Fatalf("of %+v: written into its answer: %+v, and %+v; not %+v", was, s, two, want)
	}
	scrawl(s, want)
	if !same(two, want) {
		t.Fatalf("of %+v: written into that: %+v; not %+v", was, two, want)
	}
}

// step answers what Step answers of a moment.
func step(s moment) moment {
	h, m, _ := mark.Step(s.heap, s.marker)
	return moment{h, m}
}

// TestStepsMemory is of P17.4: of heaps and markers of all kinds: what a step changes is new memory.
func TestStepsMemory(t *testing.T) {
	for seed := range 3000 {
		number := testheap.Numbers(seed)
		h := testheap.AnyHeap(number, 1+seed%3)
		mustBeNew(t, moment{h, testheap.AnyMarker(number, h)}, step)
	}
}

// TestStepByStepMemory is of P17.4: what the steps behind one another answer is each of its own, where it is otherwise.
func TestStepByStepMemory(t *testing.T) {
	for room := range 4 {
		s := moment{apart(), newMarker(t, room, []int{2, 2}, append(refsTo(16, 0), num(1), ref(12)))}
		for range 60 {
			next := step(kept(s))
			mustBeNew(t, s, step)
			s = next
		}
	}
}

// TestNotesMemory is of P17.4: what is noted is new memory, in each mutator's row.
func TestNotesMemory(t *testing.T) {
	for seed := range 500 {
		number := testheap.Numbers(seed)
		h := testheap.AnyHeap(number, 1+seed%3)
		s := moment{h, testheap.AnyMarker(number, h)}
		for who := range s.marker.Barriers {
			for _, v := range testheap.AnyValues(number, h) {
				mustBeNew(t, kept(s), func(s moment) moment {
					h, m := mark.Note(s.heap, s.marker, who, v)
					return moment{h, m}
				})
			}
		}
	}
}

// TestNoneIsKept is of P17.4: what comes of one moment, each is its own, and stays when others come.
func TestNoneIsKept(t *testing.T) {
	for room := range 4 {
		s := moment{apart(), newMarker(t, room, []int{1, 2}, append(refsTo(16, 0), num(1), ref(12)))}
		var all, keep []moment
		for range 30 {
			for who := range 2 {
				for _, at := range []int{0, 4, 8, 12, 16} {
					all = append(all, mustNote(t, s, who, ref(at)))
				}
			}
			s = step(s)
			all = append(all, s)
		}
		for _, x := range all {
			keep = append(keep, kept(x))
		}
		for _, x := range all {
			step(step(x))
			mark.Note(x.heap, x.marker, 1, ref(4))
		}
		for i, x := range all {
			if !untouched(x, keep[i]) {
				t.Fatalf("%+v, that was %+v", x, keep[i])
			}
		}
	}
}

// FuzzMark is of P17.2 to P17.4, of whatever words, markers and notes come: two bytes are a word, two a note.
func FuzzMark(f *testing.F) {
	f.Add([]byte{1, 2, 0}, []byte{0, 129, 0, 66, 0, 129, 0, 4}, []byte{0, 0, 1, 2, 0, 4}, 3, true)
	f.Add([]byte{8, 5, 4, 7}, []byte{0, 191, 0, 2, 0, 66, 0, 129, 1, 2}, []byte{2, 0, 0, 0, 0, 1}, 7, true)
	f.Add([]byte{}, []byte{}, []byte{1}, 16, false)
	f.Fuzz(func(t *testing.T, pages, words, notes []byte, seed int, sense bool) {
		h := testheap.OfBytes(pages, words)
		h.Sense = sense
		s := moment{h, testheap.AnyMarker(testheap.Numbers(seed), h)}
		for _, b := range notes {
			if rows := len(s.marker.Barriers); rows > 0 && b%2 == 0 {
				s = mustNote(t, s, int(b)/2%rows, ref(int(b)))
			}
			s, _ = mustStep(t, s)
			mustBeRight(t, s.heap, s.marker)
			mustBeNew(t, kept(s), step)
		}
	})
}
