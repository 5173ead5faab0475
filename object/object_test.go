package object_test

import (
	"math"
	"slices"
	"testing"

	"flotsam/api"
	"flotsam/heap"
	"flotsam/object"
	"flotsam/testheap"
)

// wrongValues may not be (chapter 1).
var wrongValues = []api.Value{
	{Kind: api.Nil, N: 1}, {Kind: api.Nil, N: -1}, {Kind: api.Int, N: -1}, {Kind: api.Int, N: math.MinInt},
	{Kind: api.Ref, N: -1}, {Kind: api.Ref, N: math.MaxInt}, {Kind: 3}, {Kind: -1}, {Kind: 3, N: 5}, {Kind: 256 + api.Int, N: 5}, {Kind: 1 << 32},
}

// numbered are values that may be, with their words, worked out by hand.
var numbered = []struct {
	v api.Value
	w uint64
}{
	{api.Value{}, 0}, {integer(0), 1}, {integer(5), 11}, {ref(0), 2}, {ref(32), 66}, {ref(511), 1024}, {integer(api.MaxInt), 1<<41 + 1},
	{integer(math.MaxInt), math.MaxUint64}, {ref(math.MaxInt - 1), math.MaxUint64 - 1}, {integer(64), 129}, {ref(63), 128},
}

func ref(n int) api.Value     { return api.Value{Kind: api.Ref, N: n} }
func integer(n int) api.Value { return api.Value{Kind: api.Int, N: n} }

// mixed answers a heap, written out by hand, of objects that lie apart and of such as don't, of headers that are none,
// and of pages of all kinds; its sense is true.
func mixed() api.Heap {
	h := testheap.Blank(
		api.Span{State: api.SpanClean, Class: 0, Free: 0xfffa},
		api.Span{},
		api.Span{State: api.SpanClean, Class: 1, Free: 0xf0},
		api.Span{State: api.SpanDirty, Class: 2, Free: 0},
		api.Span{State: api.SpanClean, Class: 3, Free: 2},
	)
	h.Sense = true
	testheap.Write(h, 0, 129, 3)                      // a field: Int 1
	testheap.Write(h, 2, 128, 77)                     // no field, in a free block
	testheap.Write(h, 4, 193, 6)                      // black; Ref 2
	testheap.Write(h, 6, 65, 2)                       // not Used
	testheap.Write(h, 8, 130, 2)                      // more fields than its class has room for
	testheap.Write(h, 10, 129+256, 2)                 // a bit too many
	testheap.Write(h, 12, 1<<63+129, 2)               // again
	testheap.Write(h, 24, 166, 0)                     // class 2, 6 fields, to the word 30
	testheap.Write(h, 26, 165, 4, 183, 91, 230, 1)    // class 2, 5 fields, to the page's last word, over other blocks
	testheap.Write(h, 32, 129, 2)                     // in a free page
	testheap.Write(h, 64, 147, 0, 11, 130)            // 3 fields: Nil, Int 5, Ref 64
	testheap.Write(h, 68, 209, 138)                   // black; Ref 68
	testheap.Write(h, 80, 191, 2, 2, 2, 187, 0, 8, 2) // class 3, 15 fields, to the page's last word; at 84 class 3, 11 fields, to it too
	testheap.Write(h, 88, 188, 6, 0, 0, 147, 2, 4, 6) // 12 fields, past the page's last word; at 92 3 fields, to it
	testheap.Write(h, 96, 167, 2, 4, 2, 0, 1, 3, 1024)
	testheap.Write(h, 112, 232)                       // black, 8 fields are too many of class 2
	testheap.Write(h, 120, 224, 2)                    // black, no field
	testheap.Write(h, 128, 189, 1<<63+2, 1<<63+3, 66) // class 3, 13 fields, great ones
	testheap.Write(h, 144, 255)                       // black, 15 fields, to the heap's last word
	testheap.Write(h, 159, 66)                        // the last of these: Ref 32
	return h
}

// listed are the addresses of mixed's objects.
var listed = []int{0, 2, 4, 24, 26, 64, 68, 80, 84, 92, 96, 120, 128, 144}

// refs are to what mixed's objects refer.
var refs = map[int][]int{
	4: {2}, 24: {1, 114}, 26: {1, 114}, 64: {64}, 68: {68}, 80: {0, 0, 0, 3, 0, 93, 2, 0, 1, 2}, 84: {3, 0, 93, 2, 0, 1, 2},
	92: {0, 1, 2}, 96: {0, 1, 0, 511}, 128: {1 << 62, 32}, 144: {32},
}

// crowded answers a heap of all 16 pages, of each class, each of whose blocks has a header of some class, colour and count.
func crowded() api.Heap {
	spans := make([]api.Span, api.MaxPages)
	for i := range spans {
		spans[i] = api.Span{State: 1 + i/4%2, Class: i % 4, Free: uint32(i) % 4}
	}
	h := testheap.Blank(spans...)
	for at := range h.Words {
		h.Words[at] = 128 + uint64(at)*37%131
	}
	return h
}

// forms are heaps that have their form, of one sense and the other.
func forms() []api.Heap {
	one := testheap.Blank(api.Span{State: api.SpanDirty, Class: 3, Free: 3})
	testheap.Write(one, 16, 191, 1, 2, 3)
	other := mixed()
	other.Sense = false
	return []api.Heap{testheap.Blank(api.Span{}), one, mixed(), other, crowded(), testheap.Blank(make([]api.Span, api.MaxPages)...)}
}

// valueOf answers the value whose word w is.
func valueOf(w uint64) api.Value {
	if w%2 == 1 {
		return integer(int((w - 1) / 2))
	}
	if w == 0 {
		return api.Value{}
	}
	return ref(int((w - 2) / 2))
}

// addresses are all of a heap, those about it, and far ones.
func addresses(h api.Heap) []int {
	l := testheap.Far()
	for at := -70; at < len(h.Words)+70; at++ {
		l = append(l, at)
	}
	return l
}

// fieldNumbers are all that a field may have, those about them, and far ones.
func fieldNumbers() []int {
	l := testheap.Far()
	for i := range 34 {
		l = append(l, i)
	}
	return l
}

// TestExample is of P8.1: the chapter's example.
func TestExample(t *testing.T) {
	h, _ := heap.New(2)
	h, _ = heap.Open(h, 1, 1)
	h, at, ok := heap.Lay(h, 1, 2)
	if at != 32 || !ok {
		t.Fatalf("Lay: %d, %t", at, ok)
	}
	h, e := object.Set(h, 32, 1, integer(7))
	if e != api.OK || h.Words[34] != 15 {
		t.Errorf("Set: %+v, %d", h, e)
	}
	if v, e := object.Field(h, 32, 1); v != integer(7) || e != api.OK {
		t.Errorf("Field 1: %+v, %d", v, e)
	}
	if v, e := object.Field(h, 32, 0); v != (api.Value{}) || e != api.OK {
		t.Errorf("Field 0: %+v, %d", v, e)
	}
}

// TestGet is of P8.1: headers worked out by hand: of free blocks too, and of another class than the span's, as long as
// their fields lie in the page.
func TestGet(t *testing.T) {
	h := mixed()
	for _, x := range []struct {
		at     int
		colour bool
		class  int
		count  int
	}{
		{0, false, 0, 1}, {2, false, 0, 0}, {4, true, 0, 1}, {24, false, 2, 6}, {26, false, 2, 5}, {64, false, 1, 3}, {68, true, 1, 1},
		{80, false, 3, 15}, {84, false, 3, 11}, {92, false, 1, 3}, {96, false, 2, 7}, {120, true, 2, 0}, {128, false, 3, 13}, {144, true, 3, 15},
	} {
		want := api.Header{Used: true, Colour: x.colour, Class: x.class, Count: x.count}
		if got, ok := object.Get(h, x.at); got != want || !ok {
			t.Errorf("Get(h, %d): %+v, %t; not %+v, true", x.at, got, ok, want)
		}
	}
}

// TestNoGet is of P8.1: no object where no block begins, where no header of a Used one is, where fields lead out of the page.
func TestNoGet(t *testing.T) {
	h := mixed()
	for _, at := range append([]int{1, 3, 5, 6, 8, 10, 12, 14, 25, 27, 28, 30, 31, 32, 34, 63, 65, 66, 72, 88, 90, 95, 97, 104, 112, 116, 136, 145, 152, 159, 160, 161, 176}, testheap.Far()...) {
		if got, ok := object.Get(h, at); got != (api.Header{}) || ok {
			t.Errorf("Get(h, %d): %+v, %t", at, got, ok)
		}
	}
}

// TestGetOfEachWord is of P8.1: whatever word stands at whatever address of a page of whatever class; in the last page the
// fields may not lead out of the arena either.
func TestGetOfEachWord(t *testing.T) {
	for c := range api.Classes {
		for state := api.SpanFree; state <= api.SpanDirty; state++ {
			s := api.Span{State: state, Class: c, Free: 1}
			if state == api.SpanFree {
				s = api.Span{}
			}
			h := testheap.Blank(s, api.Span{State: api.SpanClean, Class: 0, Free: 0xffff}, s)
			for at := range h.Words {
				for w := range uint64(520) {
					for _, high := range []uint64{0, 1 << 16, 1 << 32, 1 << 63} {
						h.Words[at] = high + w
						want := testheap.HeaderAt(h, at)
						if got, ok := object.Get(h, at); got != want || ok != want.Used {
							t.Fatalf("span %+v, the word %d at %d: %+v, %t; not %+v", s, h.Words[at], at, got, ok, want)
						}
					}
				}
				h.Words[at] = 0
			}
		}
	}
}

// TestField is of P8.1: values worked out by hand.
func TestField(t *testing.T) {
	h := mixed()
	for _, x := range []struct {
		at, i int
		v     api.Value
	}{
		{0, 0, integer(1)}, {4, 0, ref(2)}, {24, 0, api.Value{}}, {24, 5, ref(114)}, {26, 0, ref(1)}, {26, 1, integer(91)}, {26, 4, integer(0)},
		{64, 0, api.Value{}}, {64, 1, integer(5)}, {64, 2, ref(64)}, {80, 0, ref(0)}, {80, 3, integer(93)}, {80, 14, ref(2)}, {84, 10, ref(2)},
		{92, 2, ref(2)}, {96, 3, api.Value{}}, {96, 6, ref(511)}, {128, 0, ref(1 << 62)}, {128, 1, integer(1<<62 + 1)}, {128, 12, api.Value{}}, {144, 14, ref(32)},
	} {
		if v, e := object.Field(h, x.at, x.i); v != x.v || e != api.OK {
			t.Errorf("Field(h, %d, %d): %+v, %d; not %+v, 0", x.at, x.i, v, e, x.v)
		}
	}
}

// wantError answers what Field and Set say of a field of a header.
func wantError(x api.Header, i int) api.Errno {
	if !x.Used {
		return api.ErrArg
	}
	if i < 0 || i >= x.Count {
		return api.ErrField
	}
	return api.OK
}

// TestFieldEverywhere is of P8.1: each number at each address of each heap: a field, or ErrArg ahead of ErrField.
func TestFieldEverywhere(t *testing.T) {
	for n, h := range forms() {
		for _, at := range addresses(h) {
			for _, i := range fieldNumbers() {
				want, v := wantError(testheap.HeaderAt(h, at), i), api.Value{}
				if want == api.OK {
					v = valueOf(h.Words[at+1+i])
				}
				if got, e := object.Field(h, at, i); got != v || e != want {
					t.Fatalf("form %d: Field(h, %d, %d): %+v, %d; not %+v, %d", n, at, i, got, e, v, want)
				}
			}
		}
	}
}

// TestSet is of P8.1: words worked out by hand, in each field of each object; everything else is as it was.
func TestSet(t *testing.T) {
	h := mixed()
	for _, at := range listed {
		for i := range testheap.HeaderAt(h, at).Count {
			for _, x := range numbered {
				want := testheap.Kept(h)
				want.Words[at+1+i] = x.w
				if n, e := object.Set(h, at, i, x.v); e != api.OK || !testheap.Same(n, want) {
					t.Fatalf("Set(h, %d, %d, %+v): %+v, %d", at, i, x.v, n.Words, e)
				}
			}
		}
	}
}

// TestSetErrors is of P8.1: h, and ErrArg of no object ahead of ErrField ahead of ErrArg of a value that may not be.
func TestSetErrors(t *testing.T) {
	values := append([]api.Value{{}, integer(5), ref(0), ref(math.MaxInt - 1)}, wrongValues...)
	for n, h := range forms() {
		for _, at := range addresses(h) {
			for _, i := range append([]int{-1, 0, 1, 3, 7, 14, 15, 16, 31}, testheap.HeaderAt(h, at).Count, testheap.HeaderAt(h, at).Count-1) {
				for _, v := range values {
					want := wantError(testheap.HeaderAt(h, at), i)
					if want == api.OK && slices.Contains(wrongValues, v) {
						want = api.ErrArg
					}
					got, e := object.Set(h, at, i, v)
					if e != want || e != api.OK && !testheap.Same(got, h) {
						t.Fatalf("form %d: Set(h, %d, %d, %+v): %d, not %d", n, at, i, v, e, want)
					}
				}
			}
		}
	}
}

// TestSetErrorsByHand is of P8.1: the errors' order, and far numbers.
func TestSetErrorsByHand(t *testing.T) {
	h, wrong := mixed(), api.Value{Kind: 3}
	for _, x := range []struct {
		at, i int
		v     api.Value
		want  api.Errno
	}{
		{64, 0, wrong, api.ErrArg}, {64, 3, wrong, api.ErrField}, {64, -1, wrong, api.ErrField}, {66, 0, integer(1), api.ErrArg}, {66, 3, wrong, api.ErrArg},
		{2, 0, integer(1), api.ErrField}, {120, 0, integer(1), api.ErrField}, {144, 15, integer(1), api.ErrField}, {160, 0, integer(1), api.ErrArg}, {-32, 0, integer(1), api.ErrArg},
	} {
		if n, e := object.Set(h, x.at, x.i, x.v); e != x.want || !testheap.Same(n, h) {
			t.Errorf("Set(h, %d, %d, %+v): %d, not %d", x.at, x.i, x.v, e, x.want)
		}
	}
	for _, n := range testheap.Far() {
		if got, e := object.Set(h, 144, n, integer(1)); e != api.ErrField || !testheap.Same(got, h) {
			t.Errorf("Set(h, 144, %d, ..): %d", n, e)
		}
		if got, e := object.Set(h, n, 0, integer(1)); e != api.ErrArg || !testheap.Same(got, h) {
			t.Errorf("Set(h, %d, 0, ..): %d", n, e)
		}
	}
}

// TestBlack is of P8.2: by hand: which colour is black hangs on the heap's sense; what is no object is neither.
func TestBlack(t *testing.T) {
	coloured := []int{4, 68, 120, 144}
	for _, sense := range []bool{false, true} {
		h := mixed()
		h.Sense = sense
		for _, at := range addresses(h) {
			want := slices.Contains(listed, at) && slices.Contains(coloured, at) == sense
			if got := object.Black(h, at); got != want {
				t.Errorf("sense %t: Black(h, %d): %t", sense, at, got)
			}
		}
	}
}

// TestPaint is of P8.2: each object's word gets the sense's colour, if it hadn't it; everything else is as it was, its other
// parts too. Where there is none, h and false.
func TestPaint(t *testing.T) {
	for n, h := range forms() {
		for _, at := range addresses(h) {
			want, x := testheap.Kept(h), testheap.HeaderAt(h, at)
			if x.Used && x.Colour && !h.Sense {
				want.Words[at] -= 64
			}
			if x.Used && !x.Colour && h.Sense {
				want.Words[at] += 64
			}
			got, ok := object.Paint(h, at)
			if ok != x.Used || !testheap.Same(got, want) || object.Black(got, at) != ok {
				t.Fatalf("form %d: Paint(h, %d): %t, %t; not %t", n, at, ok, object.Black(got, at), x.Used)
			}
		}
	}
}

// TestPaintByHand is of P8.2: words worked out by hand, in both senses.
func TestPaintByHand(t *testing.T) {
	for _, x := range []struct {
		at           int
		white, black uint64
	}{{0, 129, 193}, {2, 128, 192}, {4, 129, 193}, {26, 165, 229}, {64, 147, 211}, {96, 167, 231}, {120, 160, 224}, {144, 191, 255}} {
		h := mixed()
		n, ok := object.Paint(h, x.at)
		if !ok || n.Words[x.at] != x.black {
			t.Errorf("Paint(h, %d): %d, %t", x.at, n.Words[x.at], ok)
		}
		n.Sense = false
		if n, ok = object.Paint(n, x.at); !ok || n.Words[x.at] != x.white {
			t.Errorf("sense false: Paint(h, %d): %d, %t", x.at, n.Words[x.at], ok)
		}
	}
}

// TestList is of P8.2: all objects, by hand; none.
func TestList(t *testing.T) {
	for _, sense := range []bool{false, true} {
		h := mixed()
		h.Sense = sense
		if l := object.List(h); !slices.Equal(l, listed) {
			t.Errorf("List: %v, not %v", l, listed)
		}
	}
	for _, h := range []api.Heap{testheap.Blank(api.Span{}), testheap.Blank(api.Span{State: api.SpanClean, Class: 0}), testheap.Blank(make([]api.Span, 16)...)} {
		if l := object.List(h); len(l) != 0 {
			t.Errorf("List of %+v: %v", h, l)
		}
	}
}

// TestListEverywhere is of P8.2: of each heap, just where objects are, rising; a full heap's too.
func TestListEverywhere(t *testing.T) {
	full := crowded()
	for at := range full.Words {
		full.Words[at] = 128
	}
	for n, h := range append(forms(), full) {
		var want []int
		for at := range h.Words {
			if testheap.HeaderAt(h, at).Used {
				want = append(want, at)
			}
		}
		if l := object.List(h); !slices.Equal(l, want) {
			t.Errorf("form %d: List: %v, not %v", n, l, want)
		}
	}
	if l := object.List(full); len(l) != 4*(16+8+4+2) {
		t.Errorf("List of a full heap: %d objects", len(l))
	}
}

// TestRefs is of P8.2: by hand: field by field, one twice if two fields refer to it, whatever is there; nothing, if there is
// no object or none of its fields is a Ref.
func TestRefs(t *testing.T) {
	h := mixed()
	for _, at := range addresses(h) {
		if l := object.Refs(h, at); !slices.Equal(l, refs[at]) {
			t.Errorf("Refs(h, %d): %v, not %v", at, l, refs[at])
		}
	}
}

// TestRefsEverywhere is of P8.2: of each heap, at each address.
func TestRefsEverywhere(t *testing.T) {
	for n, h := range forms() {
		for _, at := range addresses(h) {
			var want []int
			for i := range testheap.HeaderAt(h, at).Count {
				if v := valueOf(h.Words[at+1+i]); v.Kind == api.Ref {
					want = append(want, v.N)
				}
			}
			if l := object.Refs(h, at); !slices.Equal(l, want) {
				t.Errorf("form %d: Refs(h, %d): %v, not %v", n, at, l, want)
			}
		}
	}
}

// thing is what a walk knows of an object: its header, and its fields.
type thing struct {
	x      api.Header
	fields []api.Value
}

// walk is a heap whose objects lie apart, and what must be in it.
type walk struct {
	t      *testing.T
	h      api.Heap
	things map[int]thing
}

// check holds all that the calls say of the heap against what the walk knows.
func (w *walk) check() {
	w.t.Helper()
	if !heap.Form(w.h) || len(object.List(w.h)) != len(w.things) {
		w.t.Fatalf("%v aren't %d objects, or no form: %+v", object.List(w.h), len(w.things), w.h)
	}
	for _, at := range object.List(w.h) {
		is, ok := w.things[at]
		if x, found := object.Get(w.h, at); !ok || !found || x != is.x || x.Class != w.h.Spans[at/32].Class {
			w.t.Fatalf("at %d: %+v, not %+v", at, x, is.x)
		}
		if object.Black(w.h, at) != (is.x.Colour == w.h.Sense) {
			w.t.Fatalf("at %d: %t", at, object.Black(w.h, at))
		}
		var to []int
		for i, want := range is.fields {
			if v, e := object.Field(w.h, at, i); v != want || e != api.OK {
				w.t.Fatalf("the field %d at %d: %+v, %d; not %+v", i, at, v, e, want)
			}
			if want.Kind == api.Ref {
				to = append(to, want.N)
			}
		}
		if l := object.Refs(w.h, at); !slices.Equal(l, to) {
			w.t.Fatalf("Refs(h, %d): %v, not %v", at, l, to)
		}
	}
}

// lay lays an object, all of whose fields are Nil.
func (w *walk) lay(page, fields int) {
	if page >= 0 && page < len(w.h.Spans) && w.h.Spans[page].State == api.SpanFree {
		w.h, _ = heap.Open(w.h, page, (page+fields)&3)
	}
	n, at, ok := heap.Lay(w.h, page, fields)
	if w.h = n; ok {
		w.things[at] = thing{api.Header{Used: true, Colour: n.Sense, Class: n.Spans[page].Class, Count: fields}, make([]api.Value, fields)}
	}
}

// set sets a field, and must just if there is one.
func (w *walk) set(at, i int, v api.Value) {
	n, e := object.Set(w.h, at, i, v)
	is, ok := w.things[at]
	if want := wantError(is.x, i); e != want {
		w.t.Fatalf("Set(h, %d, %d, ..): %d, not %d", at, i, e, want)
	}
	if w.h = n; ok && e == api.OK {
		is.fields[i] = v
	}
}

// paint paints an object, and must just if there is one.
func (w *walk) paint(at int) {
	n, ok := object.Paint(w.h, at)
	is, there := w.things[at]
	if ok != there {
		w.t.Fatalf("Paint(h, %d): %t", at, ok)
	}
	if w.h = n; ok {
		is.x.Colour = n.Sense
		w.things[at] = is
	}
}

// turn is one step of a walk, told by numbers.
func (w *walk) turn(what, a, b, c int) {
	at := 32*a + b
	if l := object.List(w.h); what&8 != 0 && len(l) > 0 {
		at = l[(a&15*32+b&31)%len(l)]
	}
	switch what % 8 {
	case 0, 1:
		w.lay(a, b)
	case 2:
		w.h.Sense = !w.h.Sense
	case 3:
		n, ok := heap.Free(w.h, at)
		if w.h = n; ok {
			delete(w.things, at)
		}
	case 4:
		w.paint(at)
	case 5:
		w.set(at, c, numbered[(a+b+c)&7].v)
	default:
		w.set(at, c, ref(at))
	}
	w.check()
}

// TestWhatIsSetIsFound is of P8.3: through many turns on heaps whose objects lie apart, all else is as it was.
func TestWhatIsSetIsFound(t *testing.T) {
	for _, pages := range []int{1, 2, 5, 16} {
		h, _ := heap.New(pages)
		w := &walk{t: t, h: h, things: map[int]thing{}}
		next := testheap.Numbers(pages)
		most := 0
		for range 3000 {
			w.turn(next(16), next(pages+1), next(18)-1, next(17)-1)
			most = max(most, len(w.things))
		}
		if most < 2 {
			t.Errorf("%d pages: never more than %d objects", pages, most)
		}
	}
}

// TestWhatIsSetIsFoundAnywhere is of P8.3: also where objects don't lie apart, in each field that may be set.
func TestWhatIsSetIsFoundAnywhere(t *testing.T) {
	for n, h := range forms() {
		for _, at := range object.List(h) {
			for i := range testheap.HeaderAt(h, at).Count {
				for _, x := range numbered {
					set, _ := object.Set(h, at, i, x.v)
					if v, e := object.Field(set, at, i); v != x.v || e != api.OK {
						t.Fatalf("form %d: the field %d at %d: %+v, %d; not %+v", n, i, at, v, e, x.v)
					}
				}
			}
		}
	}
}

// TestHandedInStays is of P8.4: no call, done or refused, changes a heap or the room behind its lists.
func TestHandedInStays(t *testing.T) {
	for n, h := range forms() {
		was := testheap.Kept(h)
		for _, at := range addresses(h) {
			object.Get(h, at)
			object.Black(h, at)
			object.Paint(h, at)
			object.Refs(h, at)
			for i := -1; i <= 16; i++ {
				object.Field(h, at, i)
				object.Set(h, at, i, ref(3))
				object.Set(h, at, i, api.Value{Kind: 3})
			}
		}
		object.List(h)
		if !testheap.Untouched(h, was) {
			t.Errorf("form %d: %+v, that was %+v", n, h, was)
		}
	}
}

// TestAnsweredHeapIsNew is of P8.4: what is written into an answer is seen in nothing else, nor the other way round, be it
// that nothing changed.
func TestAnsweredHeapIsNew(t *testing.T) {
	for name, call := range map[string]func(h api.Heap) (api.Heap, bool){
		"Set":            func(h api.Heap) (api.Heap, bool) { n, e := object.Set(h, 64, 1, ref(0)); return n, e == api.OK },
		"Set as it was":  func(h api.Heap) (api.Heap, bool) { n, e := object.Set(h, 64, 1, integer(5)); return n, e == api.OK },
		"Paint a white":  func(h api.Heap) (api.Heap, bool) { return object.Paint(h, 64) },
		"Paint a black":  func(h api.Heap) (api.Heap, bool) { return object.Paint(h, 68) },
		"Paint the last": func(h api.Heap) (api.Heap, bool) { return object.Paint(h, 144) },
	} {
		if !testheap.OfNewMemory(mixed(), call) {
			t.Errorf("%s: not done, or the answer shares memory", name)
		}
	}
}

// TestAnsweredListIsNew is of P8.4: of List and Refs.
func TestAnsweredListIsNew(t *testing.T) {
	for name, call := range map[string]func(h api.Heap) []int{
		"List": object.List,
		"Refs": func(h api.Heap) []int { return object.Refs(h, 80) },
	} {
		h := mixed()
		was := testheap.Kept(h)
		one, two := call(h), call(h)
		want := slices.Clone(two)
		for i := range testheap.Whole(one) {
			testheap.Whole(one)[i] = 99
		}
		if len(want) < 3 || !testheap.Untouched(h, was) || !slices.Equal(two, want) || !slices.Equal(call(h), want) {
			t.Errorf("%s: the answer shares memory", name)
		}
	}
}

// FuzzWalk is of P8.1 to P8.3, of whatever turns come.
func FuzzWalk(f *testing.F) {
	f.Add(2, []byte{0, 1, 3, 0, 5, 1, 0, 0, 6, 1, 0, 2, 6, 1, 0, 3, 2, 0, 0, 0, 4, 1, 0, 0, 3, 1, 0, 0})
	f.Add(1, []byte{0, 0, 15, 0, 13, 0, 0, 14, 13, 0, 0, 15, 14, 0, 0, 255, 12, 0, 0, 0, 11, 0, 0, 0})
	f.Add(16, []byte{0, 15, 0, 0, 0, 14, 1, 0, 6, 15, 0, 0, 6, 15, 2, 0, 4, 255, 224, 0, 5, 16, 0, 0})
	f.Fuzz(func(t *testing.T, pages int, turns []byte) {
		h, e := heap.New(pages)
		if e != api.OK {
			return
		}
		w := &walk{t: t, h: h, things: map[int]thing{}}
		for i := 0; i+3 < len(turns); i += 4 {
			w.turn(int(turns[i]), int(int8(turns[i+1])), int(int8(turns[i+2])), int(int8(turns[i+3])))
		}
	})
}

// FuzzWords is of P8.1 to P8.3, of whatever words there are: objects that don't lie apart too.
func FuzzWords(f *testing.F) {
	f.Add([]byte{1, 0, 129, 3, 128, 77, 193, 6}, 0, 0, 1, 5)
	f.Add([]byte{7, 191, 2, 2, 2, 187, 0, 8, 2, 188, 6, 0, 0, 147, 2, 4, 6}, 4, 10, 2, 9)
	f.Add([]byte{4, 168, 1, 2, 3, 4, 5, 6, 7, 8}, 40, 7, 0, 0)
	f.Fuzz(func(t *testing.T, b []byte, at, i, kind, number int) {
		if len(b) == 0 {
			return
		}
		s := api.Span{State: 1 + int(b[0])%2, Class: int(b[0]) / 2 % 4}
		h := testheap.Blank(s, api.Span{}, s)
		h.Sense = b[0]&8 != 0
		for n, w := range b[1:min(len(b), 97)] {
			h.Words[n] = uint64(w)
		}
		x := testheap.HeaderAt(h, at)
		if got, ok := object.Get(h, at); got != x || ok != x.Used {
			t.Fatalf("Get(h, %d): %+v, %t; not %+v", at, got, ok, x)
		}
		v := api.Value{Kind: kind, N: number}
		n, e := object.Set(h, at, i, v)
		got, there := object.Field(n, at, i)
		if e == api.OK && got != v || there != wantError(x, i) || e != api.OK && !testheap.Same(n, h) {
			t.Fatalf("Set(h, %d, %d, %+v): %d, %+v, %d", at, i, v, e, got, there)
		}
	})
}
