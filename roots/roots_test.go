package roots_test

import (
	"math"
	"slices"
	"testing"

	"flotsam/api"
	"flotsam/roots"
	"flotsam/testheap"
)

// filler is behind the length of lists that are handed in: a value that Object and Refs would tell of.
var filler = ref(77)

func ref(n int) api.Value { return api.Value{Kind: api.Ref, N: n} }

func num(n int) api.Value { return api.Value{Kind: api.Int, N: n} }

// stackOf answers a stack of those values, with room behind it.
func stackOf(vs ...api.Value) []api.Value { return testheap.WithRoom(vs, filler) }

// kinds are values' kinds, and numbers that are none: such as would be one in fewer bits too.
func kinds() []int {
	return append([]int{api.Nil, api.Int, api.Ref, 3, 4, 5, 6, 7, 8, 256, 256 + 1, 256 + 2, 1<<16 + 2, 1<<32 + 2, -1<<32 + 2, -254}, testheap.Far()...)
}

// someValues are of each kind, and of numbers at which a value may and may not be.
func someValues() []api.Value {
	var vs []api.Value
	for _, kind := range kinds() {
		for _, n := range []int{0, 1, 2, 8, 511, 512, -1, math.MaxInt, math.MaxInt - 1, math.MinInt} {
			vs = append(vs, api.Value{Kind: kind, N: n})
		}
	}
	return vs
}

// someStacks are stacks of nothing (nil, and empty), of each length up to more than a world's, and a long one of all kinds.
func someStacks() [][]api.Value {
	all := someValues()
	stacks := [][]api.Value{nil, {}, stackOf(), stackOf(ref(5)), stackOf(ref(5), ref(5)), stackOf(api.Value{}, num(5), ref(8)), stackOf(all...)}
	for n := range 20 {
		var vs []api.Value
		for i := range n {
			vs = append(vs, all[(i*37+n*11)%len(all)])
		}
		stacks = append(stacks, stackOf(vs...))
	}
	return stacks
}

// roomsFor are rooms for a stack of so many values, beside the edge and far from it.
func roomsFor(n int) []int {
	return append([]int{n - 2, n - 1, n, n + 1, n + 2, n + 256, n - 256, 0, 1, api.MaxRoots}, testheap.Far()...)
}

// slotsOf are numbers of slots of a stack of so many values, and such as are none.
func slotsOf(n int) []int {
	l := append([]int{n, n + 1, n + 2, n + 256, n + 1<<16, n + 1<<32, n - 1<<32, -n, -n - 1}, testheap.Far()...)
	for i := range n {
		l = append(l, i)
	}
	return l
}

// kept answers a stack as l is, of memory of its own, with the room behind it.
func kept(l []api.Value) []api.Value {
	whole := slices.Clone(testheap.Whole(l))
	return whole[:len(l):len(whole)]
}

// untouched tells whether l is as it was kept, the room behind it included.
func untouched(l, was []api.Value) bool {
	return slices.Equal(l, was) && slices.Equal(testheap.Whole(l), testheap.Whole(was))
}

// scrawl writes over all of a list, and the room behind it.
func scrawl[T any](l []T, with T) {
	for i := range testheap.Whole(l) {
		testheap.Whole(l)[i] = with
	}
}

// mustPush fails, if Push answers anything else than the stack with v on top, where it has fewer values than the room; it
// answers the stack.
func mustPush(t *testing.T, l []api.Value, room int, v api.Value) []api.Value {
	t.Helper()
	want, err := l, api.ErrFull
	if len(l) < room {
		want, err = append(slices.Clone(l), v), api.OK
	}
	m, e := roots.Push(l, room, v)
	if e != err || !slices.Equal(m, want) {
		t.Fatalf("Push(%v, %d, %v): %v, %d; not %v, %d", l, room, v, m, e, want, err)
	}
	return m
}

// mustPop fails, if Pop answers anything else than the stack without its top, and that; it answers the stack.
func mustPop(t *testing.T, l []api.Value) []api.Value {
	t.Helper()
	want, top, err := l, api.Value{}, api.ErrNone
	if n := len(l); n > 0 {
		want, top, err = l[:n-1], l[n-1], api.OK
	}
	m, v, e := roots.Pop(l)
	if e != err || v != top || !slices.Equal(m, want) {
		t.Fatalf("Pop(%v): %v, %v, %d; not %v, %v, %d", l, m, v, e, want, top, err)
	}
	return m
}

// mustLook fails, if Slot or Object tells anything else of a slot than the stack has there.
func mustLook(t *testing.T, l []api.Value, i int) {
	t.Helper()
	v, slotErr, n, objectErr := api.Value{}, api.ErrNone, 0, api.ErrNone
	if i >= 0 && i < len(l) {
		v, slotErr, objectErr = l[i], api.OK, api.ErrKind
		if v.Kind == api.Nil {
			objectErr = api.ErrNil
		}
		if v.Kind == api.Ref {
			n, objectErr = v.N, api.OK
		}
	}
	if got, e := roots.Slot(l, i); got != v || e != slotErr {
		t.Fatalf("Slot(%v, %d): %v, %d; not %v, %d", l, i, got, e, v, slotErr)
	}
	if got, e := roots.Object(l, i); got != n || e != objectErr {
		t.Fatalf("Object(%v, %d): %d, %d; not %d, %d", l, i, got, e, n, objectErr)
	}
}

// mustTell fails, if Refs answers anything else than the numbers of the stack's values that are Ref.
func mustTell(t *testing.T, l []api.Value) {
	t.Helper()
	var want []int
	for _, v := range l {
		if v.Kind == api.Ref {
			want = append(want, v.N)
		}
	}
	if got := roots.Refs(l); !slices.Equal(got, want) {
		t.Fatalf("Refs(%v): %v; not %v", l, got, want)
	}
}

// TestExample is of P14.1 and P14.2: the chapter's example.
func TestExample(t *testing.T) {
	var l []api.Value
	for _, v := range []api.Value{{}, num(5), ref(8)} {
		m, e := roots.Push(l, 3, v)
		if e != api.OK {
			t.Fatalf("Push %v: %d", v, e)
		}
		l = m
	}
	for i, x := range []struct {
		n int
		e api.Errno
	}{{0, api.ErrNil}, {0, api.ErrKind}, {8, api.OK}} {
		if n, e := roots.Object(l, i); n != x.n || e != x.e {
			t.Errorf("Object %d: %d, %d; not %d, %d", i, n, e, x.n, x.e)
		}
	}
}

// TestErrors is of the chapter's Errors: their numbers.
func TestErrors(t *testing.T) {
	l := stackOf(api.Value{}, num(5))
	_, none := roots.Slot(l, 2)
	_, full := roots.Push(l, 2, ref(0))
	_, missing := roots.Object(l, 0)
	_, kind := roots.Object(l, 1)
	if missing != 2 || none != 3 || full != 5 || kind != 7 {
		t.Errorf("ErrNil %d, ErrNone %d, ErrFull %d, ErrKind %d", missing, none, full, kind)
	}
}

// TestPush is of P14.1: stacks worked out by hand; any value may be pushed.
func TestPush(t *testing.T) {
	for _, x := range []struct {
		l    []api.Value
		room int
		v    api.Value
		want []api.Value
	}{
		{nil, 1, ref(8), []api.Value{ref(8)}},
		{stackOf(), 8, api.Value{}, []api.Value{{}}},
		{stackOf(ref(8)), 2, num(5), []api.Value{ref(8), num(5)}},
		{stackOf(ref(8)), 2, ref(8), []api.Value{ref(8), ref(8)}},
		{stackOf(num(1), num(2), num(3)), 4, num(4), []api.Value{num(1), num(2), num(3), num(4)}},
		{stackOf(num(1), api.Value{}), math.MaxInt, ref(0), []api.Value{num(1), {}, ref(0)}},
		{stackOf(ref(-1)), 9, api.Value{Kind: 7, N: -3}, []api.Value{ref(-1), {Kind: 7, N: -3}}},
		{stackOf(ref(1)), 9, api.Value{N: 6}, []api.Value{ref(1), {N: 6}}},
	} {
		if m, e := roots.Push(x.l, x.room, x.v); e != api.OK || !slices.Equal(m, x.want) {
			t.Errorf("Push(%v, %d, %v): %v, %d; not %v, OK", x.l, x.room, x.v, m, e, x.want)
		}
	}
}

// TestPushIsRefused is of P14.1: l and ErrFull, of just as many values as room, of more, and of rooms below 0.
func TestPushIsRefused(t *testing.T) {
	for _, x := range []struct {
		l    []api.Value
		room int
	}{
		{nil, 0}, {nil, -1}, {stackOf(), 0}, {stackOf(), math.MinInt}, {stackOf(ref(8)), 1}, {stackOf(ref(8)), 0}, {stackOf(ref(8)), -1},
		{stackOf(ref(8), num(5)), 2}, {stackOf(ref(8), num(5)), 1}, {stackOf(someValues()...), len(someValues())}, {stackOf(someValues()...), 8},
	} {
		if m, e := roots.Push(x.l, x.room, ref(3)); e != api.ErrFull || !slices.Equal(m, x.l) {
			t.Errorf("Push(%v, %d): %v, %d; not l, ErrFull", x.l, x.room, m, e)
		}
	}
}

// TestPushOfAll is of P14.1: on every stack, with every room, every value.
func TestPushOfAll(t *testing.T) {
	for _, l := range someStacks() {
		for _, room := range roomsFor(len(l)) {
			mustPush(t, l, room, ref(3))
		}
		for _, v := range someValues() {
			mustPush(t, l, len(l)+1, v)
			mustPush(t, l, len(l), v)
		}
	}
}

// TestPop is of P14.1: stacks worked out by hand.
func TestPop(t *testing.T) {
	for _, x := range []struct {
		l    []api.Value
		want []api.Value
		top  api.Value
	}{
		{stackOf(ref(8)), nil, ref(8)},
		{stackOf(api.Value{}), nil, api.Value{}},
		{stackOf(num(5), api.Value{}), []api.Value{num(5)}, api.Value{}},
		{stackOf(ref(8), ref(8)), []api.Value{ref(8)}, ref(8)},
		{stackOf(num(1), num(2), num(3)), []api.Value{num(1), num(2)}, num(3)},
		{stackOf(ref(1), api.Value{Kind: 7, N: -3}), []api.Value{ref(1)}, api.Value{Kind: 7, N: -3}},
	} {
		if m, v, e := roots.Pop(x.l); e != api.OK || v != x.top || !slices.Equal(m, x.want) {
			t.Errorf("Pop(%v): %v, %v, %d; not %v, %v, OK", x.l, m, v, e, x.want, x.top)
		}
	}
}

// TestPopOfAll is of P14.1: every stack, till nothing is left, and beyond.
func TestPopOfAll(t *testing.T) {
	for _, l := range someStacks() {
		for range len(l) + 2 {
			l = mustPop(t, l)
		}
	}
}

// TestPopOfNone is of P14.1: l, Value{} and ErrNone, whatever lies behind the stack.
func TestPopOfNone(t *testing.T) {
	for _, l := range [][]api.Value{nil, {}, stackOf()} {
		if m, v, e := roots.Pop(l); e != api.ErrNone || v != (api.Value{}) || len(m) != 0 {
			t.Errorf("Pop(%v): %v, %v, %d", l, m, v, e)
		}
	}
}

// TestPushedIsPopped is of P14.1: a stack is as it was, once what was pushed is popped.
func TestPushedIsPopped(t *testing.T) {
	for _, l := range someStacks() {
		for _, v := range someValues() {
			m, _ := roots.Push(l, len(l)+1, v)
			if back, top, e := roots.Pop(m); e != api.OK || top != v || !slices.Equal(back, l) {
				t.Fatalf("%v: %v was pushed, %v popped, %d: %v", l, v, top, e, back)
			}
		}
	}
}

// TestLook is of P14.2: slots worked out by hand, from the bottom on.
func TestLook(t *testing.T) {
	l := stackOf(ref(8), num(5), api.Value{}, ref(0), api.Value{Kind: 3, N: 8}, ref(-4), api.Value{N: 9}, num(0), api.Value{Kind: -1})
	for _, x := range []struct {
		i     int
		v     api.Value
		slotE api.Errno
		n     int
		objE  api.Errno
	}{
		{0, ref(8), api.OK, 8, api.OK},
		{1, num(5), api.OK, 0, api.ErrKind},
		{2, api.Value{}, api.OK, 0, api.ErrNil},
		{3, ref(0), api.OK, 0, api.OK},
		{4, api.Value{Kind: 3, N: 8}, api.OK, 0, api.ErrKind},
		{5, ref(-4), api.OK, -4, api.OK},
		{6, api.Value{N: 9}, api.OK, 0, api.ErrNil},
		{7, num(0), api.OK, 0, api.ErrKind},
		{8, api.Value{Kind: -1}, api.OK, 0, api.ErrKind},
		{9, api.Value{}, api.ErrNone, 0, api.ErrNone},
		{10, api.Value{}, api.ErrNone, 0, api.ErrNone},
		{11, api.Value{}, api.ErrNone, 0, api.ErrNone},
		{-1, api.Value{}, api.ErrNone, 0, api.ErrNone},
		{-9, api.Value{}, api.ErrNone, 0, api.ErrNone},
	} {
		if v, e := roots.Slot(l, x.i); v != x.v || e != x.slotE {
			t.Errorf("Slot %d: %v, %d; not %v, %d", x.i, v, e, x.v, x.slotE)
		}
		if n, e := roots.Object(l, x.i); n != x.n || e != x.objE {
			t.Errorf("Object %d: %d, %d; not %d, %d", x.i, n, e, x.n, x.objE)
		}
	}
}

// TestLookOfAll is of P14.2: every slot of every stack, and numbers that are no slot's.
func TestLookOfAll(t *testing.T) {
	for _, l := range someStacks() {
		for _, i := range slotsOf(len(l)) {
			mustLook(t, l, i)
		}
	}
}

// TestRefs is of P14.2: stacks worked out by hand; an object that is held twice is told twice.
func TestRefs(t *testing.T) {
	for _, x := range []struct {
		l    []api.Value
		want []int
	}{
		{nil, nil},
		{stackOf(), nil},
		{stackOf(api.Value{}, num(5), api.Value{Kind: 7, N: 2}), nil},
		{stackOf(ref(0)), []int{0}},
		{stackOf(ref(8), num(5), ref(2), api.Value{}, ref(8)), []int{8, 2, 8}},
		{stackOf(num(1), ref(9), ref(9), api.Value{Kind: 3, N: 4}, ref(-1), ref(math.MaxInt)), []int{9, 9, -1, math.MaxInt}},
	} {
		if got := roots.Refs(x.l); !slices.Equal(got, x.want) {
			t.Errorf("Refs(%v): %v; not %v", x.l, got, x.want)
		}
	}
}

// TestRefsOfAll is of P14.2: every stack, and what is left of it, value by value.
func TestRefsOfAll(t *testing.T) {
	for _, l := range someStacks() {
		for n := range len(l) + 1 {
			mustTell(t, l[:n])
			mustTell(t, l[n:])
		}
	}
}

// walk holds a stack of so much room, and a list, against each other: an odd step pops, the others push what the step tells.
func walk(t *testing.T, room int, steps []int) {
	t.Helper()
	var l, order []api.Value
	for _, step := range steps {
		if v := (api.Value{Kind: step / 2 % 4, N: step / 8}); step%2 == 0 {
			l = mustPush(t, l, room, v)
			if len(order) < room {
				order = append(order, v)
			}
		} else {
			l = mustPop(t, l)
			order = order[:max(len(order)-1, 0)]
		}
		if !slices.Equal(l, order) {
			t.Fatalf("%v, not %v", l, order)
		}
		mustLook(t, l, step%(room+1))
		mustTell(t, l)
	}
}

// TestWalks is of P14.1 and P14.2: whatever comes and goes between.
func TestWalks(t *testing.T) {
	for room := range 12 {
		next := testheap.Numbers(room)
		var steps []int
		for range 2000 {
			steps = append(steps, next(200))
		}
		walk(t, room, steps)
	}
}

// branch goes on from a stack with each of three steps, so many deep, and fails, if the stack, or one that comes of it,
// becomes another by what its fellows do.
func branch(t *testing.T, l []api.Value, room, deep int) {
	t.Helper()
	if deep == 0 {
		return
	}
	was := kept(l)
	nexts := [][]api.Value{mustPush(t, l, room, ref(2*deep)), mustPush(t, l, room, num(2*deep+1)), mustPop(t, l)}
	var keep [][]api.Value
	for _, m := range nexts {
		keep = append(keep, slices.Clone(m))
	}
	for _, m := range nexts {
		branch(t, m, room, deep-1)
	}
	for i, m := range nexts {
		if !slices.Equal(m, keep[i]) {
			t.Fatalf("%v, that was %v", m, keep[i])
		}
	}
	if !untouched(l, was) {
		t.Fatalf("%v, that was %v", testheap.Whole(l), testheap.Whole(was))
	}
}

// TestStacksThatGrowFromOne is of P14.3: whatever comes of one stack, each is its own.
func TestStacksThatGrowFromOne(t *testing.T) {
	for _, room := range []int{0, 1, 2, 3, 5, 8} {
		branch(t, nil, room, 7)
		branch(t, stackOf(), room, 5)
		branch(t, stackOf(someValues()[:room/2]...), room, 6)
		branch(t, stackOf(someValues()[:room]...), room, 5)
	}
}

// TestStays is of P14.3: no call changes a stack, or the room behind it.
func TestStays(t *testing.T) {
	for _, l := range someStacks() {
		was := kept(l)
		for _, room := range []int{-1, 0, len(l), len(l) + 1, len(l) + 2, math.MaxInt} {
			roots.Push(l, room, ref(4))
		}
		roots.Pop(l)
		for _, i := range slotsOf(len(l)) {
			roots.Slot(l, i)
			roots.Object(l, i)
		}
		roots.Refs(l)
		if !untouched(l, was) {
			t.Fatalf("%v: became %v", testheap.Whole(was), testheap.Whole(l))
		}
	}
}

// TestNewMemory is of P14.3: what is written into an answer, or behind it, is seen nowhere else, nor what is written into
// the stack that was handed in.
func TestNewMemory(t *testing.T) {
	push := func(l []api.Value) ([]api.Value, bool) {
		m, e := roots.Push(l, len(l)+2, ref(4))
		return m, e == api.OK
	}
	pop := func(l []api.Value) ([]api.Value, bool) {
		m, _, e := roots.Pop(l)
		return m, e == api.OK
	}
	for i, call := range []func([]api.Value) ([]api.Value, bool){push, pop} {
		for _, l := range someStacks() {
			l = kept(l)
			was := kept(l)
			one, ok := call(l)
			if !ok {
				continue
			}
			two, _ := call(l)
			want := slices.Clone(two)
			scrawl(one, num(-99))
			if !untouched(l, was) || !slices.Equal(two, want) {
				t.Fatalf("call %d of %v: written into its answer: %v, and %v", i, was, l, two)
			}
			scrawl(l, num(-99))
			if !slices.Equal(two, want) {
				t.Fatalf("call %d of %v: written into that: %v", i, was, two)
			}
		}
	}
}

// TestRefsOfNewMemory is of P14.3: each list of Refs is its own.
func TestRefsOfNewMemory(t *testing.T) {
	for _, l := range someStacks() {
		one, two := roots.Refs(l), roots.Refs(l)
		want := slices.Clone(two)
		scrawl(one, -99)
		if !slices.Equal(two, want) {
			t.Fatalf("Refs(%v): written into another one: %v", l, two)
		}
		mustTell(t, l)
	}
}

// FuzzRoots is of P14.1 to P14.3, of whatever comes: two bytes are a value, one is a step.
func FuzzRoots(f *testing.F) {
	f.Add(3, 2, []byte{0, 0, 1, 5, 2, 8}, []byte{0, 12, 1, 1})
	f.Add(0, -1, []byte{}, []byte{1, 0, 255})
	f.Add(-1, 1<<32, []byte{7, 200}, []byte{})
	f.Fuzz(func(t *testing.T, room, i int, values, steps []byte) {
		var vs []api.Value
		for p := range slices.Chunk(values, 2) {
			vs = append(vs, api.Value{Kind: int(int8(p[0])), N: int(int8(p[len(p)-1]))})
		}
		var numbers []int
		for _, b := range steps {
			numbers = append(numbers, int(b))
		}
		l := stackOf(vs...)
		mustPush(t, l, room, ref(i))
		mustPush(t, l, len(l)+1, ref(i))
		mustPop(t, l)
		mustLook(t, l, i)
		mustLook(t, l, i%(len(l)+1))
		mustTell(t, l)
		branch(t, l, len(l)+1, 4)
		walk(t, len(values)%10, numbers)
	})
}
