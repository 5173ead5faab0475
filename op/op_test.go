package op_test

import (
	"math"
	"slices"
	"testing"

	"flotsam/api"
	"flotsam/heap"
	"flotsam/object"
	"flotsam/op"
	"flotsam/roots"
	"flotsam/testheap"
)

func ref(n int) api.Value { return api.Value{Kind: api.Ref, N: n} }

func num(n int) api.Value { return api.Value{Kind: api.Int, N: n} }

// stackOf answers a stack of those values, with room behind it that looks like one more slot, of an object of Mixed.
func stackOf(vs ...api.Value) []api.Value { return testheap.WithRoom(vs, ref(64)) }

func alloc(fields int) api.Op { return api.Op{Kind: api.OpAlloc, A: fields} }

func read(slot, field int) api.Op { return api.Op{Kind: api.OpRead, A: slot, B: field} }

func write(slot, field, from int) api.Op {
	return api.Op{Kind: api.OpWrite, A: slot, B: field, C: from}
}

func dup(slot int) api.Op { return api.Op{Kind: api.OpDup, A: slot} }

func integer(n int) api.Op { return api.Op{Kind: api.OpInt, A: n} }

var pop, request = api.Op{Kind: api.OpPop}, api.Op{Kind: api.OpRequest}

// pushing and others are the kinds of operations, by whether they push a value.
var pushing, others = []int{0, 1, 3, 4}, []int{2, 5, 6}

// wrongKinds are numbers that are no operation's kind: such as would be one in fewer bits too.
func wrongKinds() []int {
	return append([]int{7, 8, 9, 15, 16, 255, 256, 256 + 1, 256 + 6, 1<<32 + 2, 1<<32 + 5, 1<<32 + 6, -1<<32 + 6, -250}, testheap.Far()...)
}

// mustTell fails, if Check tells anything else than that of an operation, or changes what it is handed, the room behind the
// lists included.
func mustTell(t *testing.T, h api.Heap, stack []api.Value, room int, o api.Op, want api.Errno) {
	t.Helper()
	heapWas, stackWas := testheap.Kept(h), slices.Clone(testheap.Whole(stack))
	for range 2 {
		if e := op.Check(h, stack, room, o); e != want {
			t.Fatalf("Check(%+v, %v, %d, %+v): %d, not %d", heapWas, stackWas[:len(stack)], room, o, e, want)
		}
	}
	if !testheap.Untouched(h, heapWas) || !slices.Equal(testheap.Whole(stack), stackWas) {
		t.Fatalf("Check(%+v, %v, %d, %+v): became %+v, %v", heapWas, stackWas, room, o, h, testheap.Whole(stack))
	}
}

// mustFollow fails, if Check tells anything else than the chapters' words.
func mustFollow(t *testing.T, h api.Heap, stack []api.Value, room int, o api.Op) {
	t.Helper()
	mustTell(t, h, stack, room, o, testheap.ErrorOf(h, stack, room, o))
}

// row is an operation, and what Check tells of it.
type row struct {
	o    api.Op
	want api.Errno
}

// mustTellAll fails, if of one of these rows anything else is told, with a stack of Mixed that has room for more; or, with
// one that is full, another error than that, or ErrFull of what else would push.
func mustTellAll(t *testing.T, stack []api.Value, rows []row) {
	t.Helper()
	for _, x := range rows {
		mustTell(t, testheap.Mixed(), stack, len(stack)+1, x.o, x.want)
		full := x.want
		if full == api.OK && slices.Contains(pushing, x.o.Kind) {
			full = api.ErrFull
		}
		mustTell(t, testheap.Mixed(), stack, len(stack), x.o, full)
	}
}

// TestExample is of P19.1: the chapter's example.
func TestExample(t *testing.T) {
	h, _ := heap.New(1)
	mustTell(t, h, nil, 2, read(0, 0), api.ErrNone)
	mustTell(t, h, stackOf(num(5)), 2, read(0, 0), api.ErrKind)
}

// TestErrors is of the chapter's Errors: their numbers.
func TestErrors(t *testing.T) {
	stack := stackOf(api.Value{}, num(4), ref(64))
	for i, x := range []row{{request, 0}, {alloc(16), 1}, {read(0, 0), 2}, {read(3, 0), 3}, {read(2, 3), 4}, {dup(0), 5}, {read(1, 0), 7}} {
		if e := op.Check(testheap.Mixed(), stack, 3, x.o); int(e) != int(x.want) {
			t.Errorf("row %d: %d, not %d", i, e, x.want)
		}
	}
}

// TestPushes is of P19.1: each kind, and such as are none.
func TestPushes(t *testing.T) {
	for _, kind := range pushing {
		if !op.Pushes(kind) {
			t.Errorf("%d pushes nothing", kind)
		}
	}
	for _, kind := range append(wrongKinds(), others...) {
		if op.Pushes(kind) {
			t.Errorf("%d pushes", kind)
		}
	}
}

// TestWrongKinds is of P19.1: ErrArg of another kind, whatever else there is, be it wrong too.
func TestWrongKinds(t *testing.T) {
	for _, kind := range wrongKinds() {
		for _, n := range []int{0, 1, 2, 9, -1} {
			o := api.Op{Kind: kind, A: n, B: n, C: n}
			mustTell(t, testheap.Mixed(), nil, 0, o, api.ErrArg)
			mustTell(t, testheap.Mixed(), stackOf(ref(64), ref(0)), 8, o, api.ErrArg)
			mustTell(t, testheap.Mixed(), stackOf(num(64), api.Value{}), 2, o, api.ErrArg)
		}
	}
}

// TestAlloc is of P19.1: as many fields as an object may have, and others.
func TestAlloc(t *testing.T) {
	var rows []row
	for n := range api.MaxFields + 1 {
		rows = append(rows, row{alloc(n), api.OK})
	}
	for _, n := range append([]int{16, 17, 31, 256, 256 + 1, 1<<32 + 1, 1 << 40}, testheap.Far()...) {
		rows = append(rows, row{alloc(n), api.ErrArg})
	}
	mustTellAll(t, nil, rows)
	mustTellAll(t, stackOf(), rows)
	mustTellAll(t, stackOf(num(4), ref(2)), rows)
}

// TestInt is of P19.1: numbers that may be, and others.
func TestInt(t *testing.T) {
	var rows []row
	for _, n := range []int{0, 1, 2, 15, 16, 1 << 32, 1<<39 + 5, 1<<40 - 1, 1 << 40} {
		rows = append(rows, row{integer(n), api.OK})
	}
	for _, n := range []int{-1, -2, -1 << 40, 1<<40 + 1, 1<<40 + 2, 1 << 41, 1 << 62, math.MaxInt, math.MinInt, math.MinInt + 1} {
		rows = append(rows, row{integer(n), api.ErrArg})
	}
	mustTellAll(t, nil, rows)
	mustTellAll(t, stackOf(num(4), ref(2)), rows)
}

// TestRead is of P19.1: worked out by hand, of white and black objects, of those in free blocks, and of another class than
// their span's.
func TestRead(t *testing.T) {
	mustTellAll(t, stackOf(ref(64), api.Value{}, num(64), ref(4), ref(65), ref(68), ref(8), ref(10), ref(144), api.Value{Kind: 3, N: 64}, api.Value{N: 64}), []row{
		{read(0, 0), api.OK}, {read(0, 1), api.OK}, {read(0, 2), api.OK}, {read(0, 3), api.ErrField}, {read(0, 4), api.ErrField}, {read(0, -1), api.ErrField},
		{read(1, 0), api.ErrNil}, {read(2, 0), api.ErrKind}, {read(3, 0), api.ErrField}, {read(3, -1), api.ErrField}, {read(4, 0), api.ErrArg},
		{read(5, 2), api.OK}, {read(5, 3), api.ErrField}, {read(6, 0), api.OK}, {read(6, 1), api.ErrField}, {read(7, 0), api.OK}, {read(7, 1), api.ErrField},
		{read(8, 14), api.OK}, {read(8, 15), api.ErrField}, {read(8, 16), api.ErrField}, {read(9, 0), api.ErrKind}, {read(10, 0), api.ErrNil},
		{read(11, 0), api.ErrNone}, {read(12, 0), api.ErrNone}, {read(-1, 0), api.ErrNone}, {read(-11, 0), api.ErrNone},
	})
	for _, n := range testheap.Far() {
		mustTellAll(t, stackOf(ref(64), ref(n)), []row{{read(n, 0), api.ErrNone}, {read(0, n), api.ErrField}, {read(1, 0), api.ErrArg}})
	}
}

// TestWrite is of P19.1: worked out by hand; any value may be written, be it of an object that isn't there.
func TestWrite(t *testing.T) {
	mustTellAll(t, stackOf(ref(64), api.Value{}, num(64), ref(4), ref(65), api.Value{Kind: 3, N: 64}), []row{
		{write(0, 0, 0), api.OK}, {write(0, 2, 1), api.OK}, {write(0, 1, 2), api.OK}, {write(0, 1, 3), api.OK}, {write(0, 1, 4), api.OK}, {write(0, 1, 5), api.OK},
		{write(0, 1, 6), api.ErrNone}, {write(0, 1, 7), api.ErrNone}, {write(0, 1, -1), api.ErrNone}, {write(0, 1, -6), api.ErrNone},
		{write(0, 3, 0), api.ErrField}, {write(0, -1, 0), api.ErrField}, {write(3, 0, 0), api.ErrField},
		{write(1, 0, 0), api.ErrNil}, {write(2, 0, 0), api.ErrKind}, {write(4, 0, 0), api.ErrArg}, {write(5, 0, 0), api.ErrKind},
		{write(6, 0, 0), api.ErrNone}, {write(-1, 0, 0), api.ErrNone},
	})
	for _, n := range testheap.Far() {
		mustTellAll(t, stackOf(ref(64), ref(n)), []row{{write(0, 0, n), api.ErrNone}, {write(0, n, 0), api.ErrField}, {write(1, 0, 0), api.ErrArg}, {write(n, 0, 0), api.ErrNone}, {write(0, 0, 1), api.OK}})
	}
}

// TestDup is of P19.1: each slot, whatever its value is, and such as aren't there.
func TestDup(t *testing.T) {
	stack := stackOf(ref(64), api.Value{}, num(64), ref(-5), api.Value{Kind: 7, N: 1})
	var rows []row
	for i := range stack {
		rows = append(rows, row{dup(i), api.OK})
	}
	for _, n := range append([]int{5, 6, 7, 8, 256, 1<<32 + 4}, testheap.Far()...) {
		rows = append(rows, row{dup(n), api.ErrNone})
	}
	mustTellAll(t, stack, rows)
	mustTellAll(t, nil, []row{{dup(0), api.ErrNone}, {dup(-1), api.ErrNone}, {dup(1), api.ErrNone}})
	mustTellAll(t, stackOf(), []row{{dup(0), api.ErrNone}, {dup(-1), api.ErrNone}, {dup(1), api.ErrNone}})
}

// TestPopAndRequest is of P19.1: of empty stacks, of others, and of such as are full.
func TestPopAndRequest(t *testing.T) {
	for _, stack := range [][]api.Value{nil, {}, stackOf()} {
		mustTellAll(t, stack, []row{{pop, api.ErrNone}, {request, api.OK}})
	}
	for _, stack := range [][]api.Value{stackOf(api.Value{}), stackOf(num(3)), stackOf(ref(64), ref(64)), stackOf(slices.Repeat([]api.Value{ref(-3)}, 40)...)} {
		mustTellAll(t, stack, []row{{pop, api.OK}, {request, api.OK}})
	}
}

// TestRoom is of P19.1: what pushes is refused by a stack of just as many values as room, of more, and of rooms below 0;
// nothing else is.
func TestRoom(t *testing.T) {
	for n := range 20 {
		stack := stackOf(slices.Repeat([]api.Value{ref(64)}, n+1)...)
		for _, room := range append([]int{0, 1, n - 1, n, n + 1, n + 2, n + 3, n + 256, n - 255}, testheap.Far()...) {
			full := api.OK
			if room <= n+1 {
				full = api.ErrFull
			}
			for _, o := range []api.Op{alloc(0), alloc(15), read(n, 2), dup(n), integer(0), integer(1 << 40)} {
				mustTell(t, testheap.Mixed(), stack, room, o, full)
			}
			for _, o := range []api.Op{write(n, 2, n), pop, request} {
				mustTell(t, testheap.Mixed(), stack, room, o, api.OK)
			}
		}
	}
	for _, room := range []int{0, -1, math.MinInt} {
		mustTell(t, testheap.Mixed(), nil, room, alloc(0), api.ErrFull)
		mustTell(t, testheap.Mixed(), nil, room, integer(0), api.ErrFull)
		mustTell(t, testheap.Mixed(), nil, room, request, api.OK)
	}
	mustTell(t, testheap.Mixed(), nil, 1, alloc(0), api.OK)
	mustTell(t, testheap.Mixed(), nil, math.MaxInt, integer(0), api.OK)
}

// TestFirstError is of P19.1: of several errors that apply, the one that the chapter names first.
func TestFirstError(t *testing.T) {
	stack := stackOf(ref(64), api.Value{}, num(64), ref(65))
	for _, x := range []row{
		{alloc(16), api.ErrArg},
		{integer(-1), api.ErrArg},
		{read(4, 3), api.ErrNone},
		{read(1, 3), api.ErrNil},
		{read(2, -1), api.ErrKind},
		{read(3, 99), api.ErrArg},
		{read(0, 3), api.ErrField},
		{read(0, 2), api.ErrFull},
		{write(4, 3, 4), api.ErrNone},
		{write(1, 3, 4), api.ErrNil},
		{write(2, 3, -1), api.ErrKind},
		{write(3, 3, 9), api.ErrArg},
		{write(0, 3, 4), api.ErrField},
		{write(0, -1, -1), api.ErrField},
		{write(0, 2, 4), api.ErrNone},
		{write(0, 2, 3), api.OK},
		{dup(4), api.ErrNone},
		{dup(3), api.ErrFull},
	} {
		for _, room := range []int{4, 3, 0, -1, math.MinInt} {
			mustTell(t, testheap.Mixed(), stack, room, x.o, x.want)
		}
	}
}

// TestWhatIsNotNamed is of P19.1: numbers of an operation that its kind gives no meaning count for nothing.
func TestWhatIsNotNamed(t *testing.T) {
	stack := stackOf(ref(64), num(3))
	for _, n := range append([]int{0, 1, 2, 16}, testheap.Far()...) {
		for _, m := range []int{0, 1, 7, -1, math.MaxInt, math.MinInt} {
			for _, o := range []api.Op{
				{Kind: api.OpAlloc, A: 3, B: n, C: m}, {Kind: api.OpRead, A: 0, B: 2, C: n}, {Kind: api.OpDup, A: 1, B: n, C: m},
				{Kind: api.OpInt, A: 5, B: n, C: m}, {Kind: api.OpPop, A: n, B: m, C: n}, {Kind: api.OpRequest, A: n, B: m, C: n},
			} {
				mustTell(t, testheap.Mixed(), stack, 3, o, api.OK)
			}
			mustTell(t, testheap.Mixed(), nil, 3, api.Op{Kind: api.OpPop, A: n, B: m, C: n}, api.ErrNone)
		}
	}
}

// TestEveryAddress is of P19.1: a Ref to each address, of both senses, each field.
func TestEveryAddress(t *testing.T) {
	for _, sense := range []bool{true, false} {
		h := testheap.Mixed()
		h.Sense = sense
		for at := -2; at < len(h.Words)+40; at++ {
			for i := -1; i < 18; i++ {
				mustFollow(t, h, stackOf(num(1), ref(at)), 3, read(1, i))
				mustFollow(t, h, stackOf(num(1), ref(at)), 2, write(1, i, 0))
			}
		}
		for _, at := range testheap.MixedNoObjects() {
			mustTell(t, h, stackOf(ref(at)), 3, read(0, 0), api.ErrArg)
			mustTell(t, h, stackOf(ref(at)), 3, write(0, 0, 0), api.ErrArg)
		}
	}
}

// TestNoWords is of P19.1: no object is in a heap without one.
func TestNoWords(t *testing.T) {
	h, _ := heap.New(2)
	for at := -1; at < 70; at++ {
		mustTell(t, h, stackOf(ref(at)), 3, read(0, 0), api.ErrArg)
		mustTell(t, h, stackOf(ref(at)), 3, write(0, 0, 0), api.ErrArg)
		mustTell(t, h, stackOf(ref(at)), 3, dup(0), api.OK)
	}
}

// TestEachMoment is of P19.1 and P19.2: of heaps of any words, and stacks and operations of any kind.
func TestEachMoment(t *testing.T) {
	seen := map[api.Errno]int{}
	for seed := range 1500 {
		number := testheap.Numbers(seed)
		h := testheap.AnyHeap(number, 1+seed%16)
		stack := testheap.AnyValues(number, h)
		for range 40 {
			o, room := testheap.AnyOp(number, len(stack)), number(6)
			mustFollow(t, h, stack, room, o)
			seen[testheap.ErrorOf(h, stack, room, o)]++
		}
	}
	for _, e := range []api.Errno{api.OK, api.ErrArg, api.ErrNil, api.ErrNone, api.ErrField, api.ErrFull, api.ErrKind} {
		if seen[e] < 100 {
			t.Errorf("%d is told but %d times", e, seen[e])
		}
	}
}

// TestWhatIsAllowedCanBeDone is of P19.1: what is told OK of, the layers below can do.
func TestWhatIsAllowedCanBeDone(t *testing.T) {
	for seed := range 1500 {
		number := testheap.Numbers(seed)
		h := testheap.AnyHeap(number, 1+seed%16)
		stack := testheap.AnyValues(number, h)
		for range 20 {
			o := testheap.AnyOp(number, len(stack))
			if op.Check(h, stack, 4, o) == api.OK {
				mustDo(t, h, stack, o)
			}
		}
	}
}

// mustDo fails, if what an operation asks of the heap or the stack is refused.
func mustDo(t *testing.T, h api.Heap, stack []api.Value, o api.Op) {
	t.Helper()
	var errs []api.Errno
	switch o.Kind {
	case api.OpRead, api.OpWrite:
		at, none := roots.Object(stack, o.A)
		_, e := object.Field(h, at, o.B)
		errs = append(errs, none, e)
	case api.OpDup:
		_, e := roots.Slot(stack, o.A)
		errs = append(errs, e)
	case api.OpPop:
		_, _, e := roots.Pop(stack)
		errs = append(errs, e)
	}
	if o.Kind == api.OpWrite {
		_, e := roots.Slot(stack, o.C)
		errs = append(errs, e)
	}
	if op.Pushes(o.Kind) {
		_, e := roots.Push(stack, 4, num(1))
		errs = append(errs, e)
	}
	for _, e := range errs {
		if e != api.OK {
			t.Fatalf("%+v of %v, in %+v: refused by %d", o, stack, h, e)
		}
	}
}

// FuzzOp is of both promises, of whatever words, stacks, rooms and operations come: two bytes are a word.
func FuzzOp(f *testing.F) {
	f.Add([]byte{1, 2, 0}, []byte{0, 129, 0, 66, 0, 129, 0, 4}, 3, 4, 1, 0, 0, 0)
	f.Add([]byte{8, 5, 4, 7}, []byte{0, 191, 0, 2, 0, 66, 0, 129, 1, 2}, 7, 0, 2, 1, 14, 1<<40)
	f.Add([]byte{}, []byte{}, 16, -1, 7, -1, -1, -1)
	f.Fuzz(func(t *testing.T, pages, words []byte, seed, room, kind, a, b, c int) {
		h := testheap.OfBytes(pages, words)
		number := testheap.Numbers(seed)
		stack := testheap.AnyValues(number, h)
		mustFollow(t, h, stack, room, api.Op{Kind: kind, A: a, B: b, C: c})
		for range 20 {
			o := testheap.AnyOp(number, len(stack))
			mustFollow(t, h, stack, number(6), o)
			mustFollow(t, h, stack, room, o)
		}
		if want := slices.Contains(pushing, kind); op.Pushes(kind) != want {
			t.Fatalf("Pushes(%d): not %t", kind, want)
		}
	})
}
