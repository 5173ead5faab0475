package span_test

import (
	"iter"
	"math"
	"testing"

	"flotsam/api"
	"flotsam/span"
)

// blocksOf are how many blocks a page has of each class, by chapter 4.
var blocksOf = []int{16, 8, 4, 2}

// far are numbers that are no state, class or index: such as would be right in fewer bits too.
var far = []int{
	-1, -2, -3, -4, -8, -15, -16, -31, -32, -64, -255, -256,
	16, 17, 31, 32, 33, 34, 63, 64, 65, 127, 128, 129, 255, 256, 256 + 1, 256 + 2,
	1 << 16, 1<<16 + 1, 1 << 32, 1<<32 + 1, 1<<32 + 2, -1 << 32, -1<<32 + 1,
	math.MaxInt32, math.MinInt32, math.MaxInt, math.MaxInt - 1, math.MinInt, math.MinInt + 1, math.MinInt + 2,
}

// row is a right span, and what is told of it.
type row struct {
	s           api.Span
	used        int
	full, empty bool
	least       int // -1, if none may be taken
}

// rows are worked out by hand from the chapter.
var rows = []row{
	{api.Span{}, 0, false, false, -1},
	{api.Span{State: 1, Class: 0, Free: 0xffff}, 0, false, true, 0},
	{api.Span{State: 2, Class: 0, Free: 0xffff}, 0, false, true, -1},
	{api.Span{State: 1, Class: 0, Free: 0}, 16, true, false, -1},
	{api.Span{State: 2, Class: 0, Free: 0}, 16, true, false, -1},
	{api.Span{State: 1, Class: 0, Free: 0x8000}, 15, false, false, 15},
	{api.Span{State: 1, Class: 0, Free: 0xff}, 8, false, false, 0},
	{api.Span{State: 1, Class: 1, Free: 0xff}, 0, false, true, 0},
	{api.Span{State: 1, Class: 1, Free: 0xfe}, 1, false, false, 1},
	{api.Span{State: 1, Class: 1, Free: 0}, 8, true, false, -1},
	{api.Span{State: 2, Class: 1, Free: 0x55}, 4, false, false, -1},
	{api.Span{State: 1, Class: 2, Free: 15}, 0, false, true, 0},
	{api.Span{State: 1, Class: 2, Free: 12}, 2, false, false, 2},
	{api.Span{State: 2, Class: 2, Free: 0}, 4, true, false, -1},
	{api.Span{State: 1, Class: 3, Free: 3}, 0, false, true, 0},
	{api.Span{State: 2, Class: 3, Free: 3}, 0, false, true, -1},
	{api.Span{State: 1, Class: 3, Free: 1}, 1, false, false, 0},
	{api.Span{State: 1, Class: 3, Free: 2}, 1, false, false, 1},
	{api.Span{State: 1, Class: 3, Free: 0}, 2, true, false, -1},
}

// allRight goes through every right span that there is.
func allRight() iter.Seq[api.Span] {
	return func(yield func(api.Span) bool) {
		if !yield(api.Span{}) {
			return
		}
		for _, state := range []int{api.SpanClean, api.SpanDirty} {
			for c, blocks := range blocksOf {
				for free := range uint32(1) << blocks {
					if !yield(api.Span{State: state, Class: c, Free: free}) {
						return
					}
				}
			}
		}
	}
}

// blocks are how many blocks a right span has.
func blocks(s api.Span) int {
	if s.State == api.SpanFree {
		return 0
	}
	return blocksOf[s.Class]
}

// isFree tells from a quotient, with no call of the package, whether the span's block is free.
func isFree(s api.Span, index int) bool {
	for range index {
		s.Free /= 2
	}
	return s.Free%2 == 1
}

// tell works out of a right span, block by block, what is told of it.
func tell(s api.Span) row {
	r := row{s: s, least: -1}
	n := blocks(s)
	for i := n - 1; i >= 0; i-- {
		if !isFree(s, i) {
			r.used++
		} else if s.State == api.SpanClean {
			r.least = i
		}
	}
	r.full, r.empty = n > 0 && r.used == n, n > 0 && r.used == 0
	return r
}

// asked is what the package tells of a span.
func asked(s api.Span) row {
	r := row{s: s, used: span.Used(s), full: span.Full(s), empty: span.Empty(s), least: -1}
	if _, index, ok := span.Take(s); ok {
		r.least = index
	}
	return r
}

// TestRight is of P6.1: of every span that is right.
func TestRight(t *testing.T) {
	for _, r := range rows {
		if !span.Right(r.s) {
			t.Errorf("Right(%+v): false", r.s)
		}
	}
	for s := range allRight() {
		if !span.Right(s) {
			t.Fatalf("Right(%+v): false", s)
		}
	}
}

// TestWrong is of P6.1: of other states, of no class, of blocks beyond the class's, of a free span that has something.
func TestWrong(t *testing.T) {
	wrong := []api.Span{
		{State: -1}, {State: 3}, {State: 4}, {State: 3, Free: 1}, {State: -1, Class: 1}, {State: 3, Class: 3, Free: 3},
		{Class: 1}, {Class: 3}, {Class: -1}, {Class: 4}, {Class: 1, Free: 1},
		{Free: 1}, {Free: 0xffff}, {Free: 1 << 16}, {Free: 1 << 31}, {Free: math.MaxUint32},
	}
	for _, state := range []int{api.SpanClean, api.SpanDirty} {
		for _, c := range []int{-1, 4, 5} {
			wrong = append(wrong, api.Span{State: state, Class: c}, api.Span{State: state, Class: c, Free: 1})
		}
		for c, blocks := range blocksOf {
			for i := blocks; i < 32; i++ {
				wrong = append(wrong, api.Span{State: state, Class: c, Free: 1 << i}, api.Span{State: state, Class: c, Free: 1<<i | 1})
			}
			wrong = append(wrong, api.Span{State: state, Class: c, Free: math.MaxUint32})
		}
		for _, n := range far {
			wrong = append(wrong, api.Span{State: state, Class: n}, api.Span{State: state, Class: n, Free: 3})
		}
	}
	for _, n := range far {
		wrong = append(wrong, api.Span{State: n}, api.Span{State: n, Class: 1, Free: 3}, api.Span{Class: n})
	}
	for _, s := range wrong {
		if span.Right(s) {
			t.Errorf("Right(%+v): true", s)
		}
	}
}

// TestNew is of P6.1: a clean span, all of whose blocks are free.
func TestNew(t *testing.T) {
	for c, free := range []uint32{0xffff, 0xff, 0xf, 3} {
		want := api.Span{State: api.SpanClean, Class: c, Free: free}
		if s, ok := span.New(c); s != want || !ok {
			t.Errorf("New(%d): %+v, %t; not %+v, true", c, s, ok, want)
		}
	}
}

// TestNewOfNoClass is of P6.1: Span{} and false.
func TestNewOfNoClass(t *testing.T) {
	for _, c := range append([]int{4, 5, 7, 8}, far...) {
		if s, ok := span.New(c); s != (api.Span{}) || ok {
			t.Errorf("New(%d): %+v, %t", c, s, ok)
		}
	}
}

// TestTold is of P6.2 and P6.3: which block is taken, whether the span is full or empty, how many blocks aren't free.
func TestTold(t *testing.T) {
	for _, r := range rows {
		if got := asked(r.s); got != r {
			t.Errorf("%+v, not %+v", got, r)
		}
	}
	for s := range allRight() {
		if got, want := asked(s), tell(s); got != want {
			t.Fatalf("%+v, not %+v", got, want)
		}
	}
}

// TestTake is of P6.2: the block that is taken isn't free, and nothing else is changed.
func TestTake(t *testing.T) {
	for s := range allRight() {
		n, index, ok := span.Take(s)
		want, least := s, tell(s).least
		if least >= 0 {
			want.Free -= 1 << least
		}
		if n != want || index != max(least, 0) || ok != (least >= 0) {
			t.Fatalf("Take(%+v): %+v, %d, %t; not %+v, %d, %t", s, n, index, ok, want, max(least, 0), least >= 0)
		}
	}
}

// TestNoTake is of P6.2: s, 0 and false of a span that isn't clean, or is full.
func TestNoTake(t *testing.T) {
	for _, s := range []api.Span{
		{}, {State: 1}, {State: 1, Class: 1}, {State: 1, Class: 2}, {State: 1, Class: 3},
		{State: 2}, {State: 2, Free: 0xffff}, {State: 2, Class: 1, Free: 0x80}, {State: 2, Class: 2, Free: 2}, {State: 2, Class: 3, Free: 3},
	} {
		if n, index, ok := span.Take(s); n != s || index != 0 || ok {
			t.Errorf("Take(%+v): %+v, %d, %t", s, n, index, ok)
		}
	}
}

// TestGive is of P6.2: every block that isn't free, of clean spans and of dirty ones, and none that is free or isn't there.
func TestGive(t *testing.T) {
	for s := range allRight() {
		for index := -1; index <= 32; index++ {
			want, can := s, index >= 0 && index < blocks(s) && !isFree(s, index)
			if can {
				want.Free += 1 << index
			}
			if n, ok := span.Give(s, index); n != want || ok != can {
				t.Fatalf("Give(%+v, %d): %+v, %t; not %+v, %t", s, index, n, ok, want, can)
			}
		}
	}
}

// TestNoGive is of P6.2: s and false of no such block, the classes' blocks being fewer one by one.
func TestNoGive(t *testing.T) {
	for _, r := range rows {
		for _, index := range append([]int{blocks(r.s), blocks(r.s) + 1}, far...) {
			if n, ok := span.Give(r.s, index); n != r.s || ok {
				t.Errorf("Give(%+v, %d): %+v, %t", r.s, index, n, ok)
			}
		}
	}
}

// TestSpansStayRight is of P6.4: behind a taking and behind each giving, done or refused.
func TestSpansStayRight(t *testing.T) {
	for s := range allRight() {
		if n, _, _ := span.Take(s); !span.Right(n) {
			t.Fatalf("Take(%+v): %+v", s, n)
		}
		for index := -1; index <= 16; index++ {
			if n, _ := span.Give(s, index); !span.Right(n) {
				t.Fatalf("Give(%+v, %d): %+v", s, index, n)
			}
		}
	}
	for c := -1; c <= 4; c++ {
		if s, _ := span.New(c); !span.Right(s) {
			t.Errorf("New(%d): %+v", c, s)
		}
	}
}

// TestEachBlockIsTakenOnce is of P6.4: rising, from a new span to a full one.
func TestEachBlockIsTakenOnce(t *testing.T) {
	for c, blocks := range blocksOf {
		s, _ := span.New(c)
		for i := range blocks {
			n, index, ok := span.Take(s)
			if index != i || !ok || span.Used(n) != i+1 || span.Empty(n) || span.Full(n) != (i == blocks-1) {
				t.Errorf("class %d, taking %d: %+v, %d, %t", c, i, n, index, ok)
			}
			s = n
		}
		if n, _, ok := span.Take(s); ok {
			t.Errorf("class %d, of a full span: %+v", c, n)
		}
	}
}

// TestTakenAgainBehindGiving is of P6.4: of a full span just what was given is taken again, once.
func TestTakenAgainBehindGiving(t *testing.T) {
	for c, blocks := range blocksOf {
		for i := range blocks {
			for j := range i {
				full := api.Span{State: api.SpanClean, Class: c}
				s, _ := span.Give(full, i)
				s, _ = span.Give(s, j)
				s, first, _ := span.Take(s)
				s, second, ok := span.Take(s)
				if first != j || second != i || !ok || s != full {
					t.Errorf("class %d: %d and %d were given, %d and %d taken, %+v left", c, i, j, first, second, s)
				}
			}
		}
	}
}

// FuzzSpan is of P6.1 to P6.4, of whatever comes.
func FuzzSpan(f *testing.F) {
	for i, n := range far {
		f.Add(n, i%4, uint32(n), i)
		f.Add(i%3, n, uint32(i), i)
		f.Add(i%3, i%4, uint32(1)<<(i%32), n)
	}
	f.Fuzz(func(t *testing.T, state, c int, free uint32, index int) {
		s := api.Span{State: state, Class: c, Free: free}
		want := s == api.Span{}
		if state == api.SpanClean || state == api.SpanDirty {
			want = c >= 0 && c < len(blocksOf) && uint64(free) < 1<<blocksOf[c]
		}
		if span.Right(s) != want {
			t.Fatalf("Right(%+v): not %t", s, want)
		}
		// Of wrong spans nothing is promised.
		if !want {
			return
		}
		if got, told := asked(s), tell(s); got != told {
			t.Errorf("%+v, not %+v", got, told)
		}
		can := index >= 0 && index < blocks(s) && !isFree(s, index)
		n, ok := span.Give(s, index)
		if ok != can || ok == (n == s) || !span.Right(n) || ok && !isFree(n, index) {
			t.Errorf("Give(%+v, %d): %+v, %t", s, index, n, ok)
		}
	})
}
