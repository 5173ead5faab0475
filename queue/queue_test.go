package queue_test

import (
	"math"
	"slices"
	"testing"

	"flotsam/queue"
	"flotsam/testheap"
)

// row is a list, and its numbers, rising.
type row struct {
	l, rising []int
}

// rows are worked out by hand from the chapter.
var rows = []row{
	{nil, nil},
	{[]int{}, nil},
	{[]int{0}, []int{0}},
	{[]int{-7}, []int{-7}},
	{[]int{3, 1, 2}, []int{1, 2, 3}},
	{[]int{1, 2, 3, 4}, []int{1, 2, 3, 4}},
	{[]int{4, 3, 2, 1}, []int{1, 2, 3, 4}},
	{[]int{0, 0, 0}, []int{0, 0, 0}},
	{[]int{5, -5, 5, -5, 0}, []int{-5, -5, 0, 5, 5}},
	{[]int{10, 9, 100, 1}, []int{1, 9, 10, 100}},
	{[]int{math.MaxInt, math.MinInt}, []int{math.MinInt, math.MaxInt}},
	{[]int{math.MinInt, math.MaxInt, -1, 1, 0}, []int{math.MinInt, -1, 0, 1, math.MaxInt}},
	{
		[]int{math.MaxInt, math.MinInt, math.MaxInt, math.MinInt, math.MinInt + 1, math.MaxInt - 1},
		[]int{math.MinInt, math.MinInt, math.MinInt + 1, math.MaxInt - 1, math.MaxInt, math.MaxInt},
	},
	{[]int{1 << 32, 1, 1 << 31, -1 << 32, 2}, []int{-1 << 32, 1, 2, 1 << 31, 1 << 32}},
	{
		[]int{8, 3, 15, 0, 12, 6, 1, 9, 14, 4, 11, 7, 2, 13, 5, 10},
		[]int{0, 1, 2, 3, 4, 5, 6, 7, 8, 9, 10, 11, 12, 13, 14, 15},
	},
}

// numbersOf are those that shortRows are made of: 0 is what is answered where there is none.
var numbersOf = []int{-2, 0, 3}

// shortRows are all lists of at most seven of three numbers, in each order, each number as often as may be.
func shortRows() []row {
	all := []row{{}}
	for at := 0; len(all[at].l) < 7; at++ {
		for _, n := range numbersOf {
			all = append(all, row{l: append(slices.Clone(all[at].l), n)})
		}
	}
	for i, r := range all {
		for _, n := range numbersOf {
			for _, m := range r.l {
				if m == n {
					all[i].rising = append(all[i].rising, n)
				}
			}
		}
	}
	return all
}

// longRow is of the numbers below n, n of no factor 3, each once, in an order that jumps.
func longRow(n int) row {
	var r row
	for i := range n {
		r.l = append(r.l, (i*3+n/2)%n)
		r.rising = append(r.rising, i)
	}
	return r
}

// allRows are those that are held against each call.
func allRows() []row {
	return append(append(shortRows(), rows...), longRow(256), longRow(1000), longRow(4097))
}

// pushed answers a queue into which the numbers of l were put one by one.
func pushed(l []int) *queue.Queue {
	q := queue.New(nil)
	for _, n := range l {
		q.Push(n)
	}
	return q
}

// halfPushed answers a queue that had the first half of l from the beginning on.
func halfPushed(l []int) *queue.Queue {
	q := queue.New(l[:len(l)/2])
	for _, n := range l[len(l)/2:] {
		q.Push(n)
	}
	return q
}

// mustHold fails, if the queue's least number isn't the first of those, which are rising, or if it has more or less of them.
func mustHold(t *testing.T, q *queue.Queue, rising []int) {
	t.Helper()
	want := 0
	if len(rising) > 0 {
		want = rising[0]
	}
	// Twice, as neither may change anything.
	for range 2 {
		if n, ok := q.Least(); n != want || ok != (len(rising) > 0) {
			t.Fatalf("Least: %d, %t; of %v", n, ok, rising)
		}
		if n := q.Len(); n != len(rising) {
			t.Fatalf("Len: %d; of %v", n, rising)
		}
	}
}

// mustPop fails, if other numbers come out than those, or in another order, or more of them.
func mustPop(t *testing.T, q *queue.Queue, rising []int) {
	t.Helper()
	for i, want := range rising {
		mustHold(t, q, rising[i:])
		if n, ok := q.Pop(); n != want || !ok {
			t.Fatalf("Pop %d: %d, %t; of %v", i, n, ok, rising)
		}
	}
	mustBeEmpty(t, q)
}

// mustBeEmpty fails, if the queue has a number, or tells that it has.
func mustBeEmpty(t *testing.T, q *queue.Queue) {
	t.Helper()
	for range 3 {
		mustHold(t, q, nil)
		if n, ok := q.Pop(); n != 0 || ok {
			t.Fatalf("Pop of nothing: %d, %t", n, ok)
		}
	}
}

// TestExample is of P10.1: the chapter's example.
func TestExample(t *testing.T) {
	q := queue.New([]int{3, 1, 2})
	if n, ok := q.Pop(); n != 1 || !ok {
		t.Errorf("Pop: %d, %t, not 1", n, ok)
	}
	q.Push(0)
	mustPop(t, q, []int{0, 2, 3})
}

// TestNew is of P10.1: a queue of a list's numbers, each as often as it is there.
func TestNew(t *testing.T) {
	for _, r := range allRows() {
		mustPop(t, queue.New(r.l), r.rising)
	}
}

// TestPush is of P10.1: what is put in is there, as are those that were there.
func TestPush(t *testing.T) {
	for _, r := range allRows() {
		mustPop(t, pushed(r.l), r.rising)
		mustPop(t, halfPushed(r.l), r.rising)
	}
}

// TestPushTellsAtOnce is of P10.1: the least number and how many there are, behind each number that is put in.
func TestPushTellsAtOnce(t *testing.T) {
	q := queue.New(nil)
	for i, x := range []struct{ n, least int }{
		{5, 5}, {7, 5}, {5, 5}, {0, 0}, {1, 0}, {-1, -1}, {math.MaxInt, -1}, {math.MinInt, math.MinInt}, {-2, math.MinInt},
	} {
		q.Push(x.n)
		if n, ok := q.Least(); n != x.least || !ok || q.Len() != i+1 {
			t.Errorf("Push(%d): Least %d, %t, not %d; Len %d, not %d", x.n, n, ok, x.least, q.Len(), i+1)
		}
	}
	mustPop(t, q, []int{math.MinInt, -2, -1, 0, 1, 5, 5, 7, math.MaxInt})
}

// TestNothing is of P10.1: 0 and false, where there is none, as often as it is asked for; a number put in later is there.
func TestNothing(t *testing.T) {
	for _, l := range [][]int{nil, {}, {4}, {0}, {2, 1, 2}, {math.MaxInt, math.MinInt}} {
		q := queue.New(l)
		for range l {
			q.Pop()
		}
		mustBeEmpty(t, q)
		for _, n := range []int{9, 0, -9} {
			q.Push(n)
			mustPop(t, q, []int{n})
		}
		q.Push(2)
		q.Push(1)
		mustPop(t, q, []int{1, 2})
	}
}

// TestSorted is of P10.2: a list's numbers, rising, each as often as it is there.
func TestSorted(t *testing.T) {
	for _, r := range allRows() {
		if l := queue.Sorted(r.l); !slices.Equal(l, r.rising) {
			t.Fatalf("Sorted(%v): %v, not %v", r.l, l, r.rising)
		}
		if l := queue.Sorted(r.rising); !slices.Equal(l, r.rising) {
			t.Fatalf("Sorted(%v): %v", r.rising, l)
		}
	}
}

// other is a queue by the chapter's words: a number that comes is put ahead of the first one that isn't less.
type other []int

func (o *other) push(n int) {
	at := 0
	for at < len(*o) && (*o)[at] < n {
		at++
	}
	*o = slices.Insert(*o, at, n)
}

func (o *other) pop() (int, bool) {
	if len(*o) == 0 {
		return 0, false
	}
	n := (*o)[0]
	*o = (*o)[1:]
	return n, true
}

// walk holds a queue of a list, and other, against each other while numbers come and go: the odd steps take one out, the
// others put half of themselves in.
func walk(t *testing.T, first, steps []int) {
	t.Helper()
	q, o := queue.New(first), other{}
	for _, n := range first {
		o.push(n)
	}
	for i, step := range steps {
		mustHold(t, q, o)
		if step%2 == 0 {
			q.Push(step / 2)
			o.push(step / 2)
			continue
		}
		n, ok := q.Pop()
		if want, is := o.pop(); n != want || ok != is {
			t.Fatalf("step %d: Pop: %d, %t, not %d, %t", i, n, ok, want, is)
		}
	}
	mustPop(t, q, o)
}

// someSteps are n steps of a walk, jumbled, -128 to 128: so the numbers that they put in are there more than once.
func someSteps(n int) []int {
	var steps []int
	x := uint32(n)
	for range n {
		x = x*1664525 + 1013904223
		steps = append(steps, int(x>>20)%257-128)
	}
	return steps
}

// TestComeOutRising is of P10.3: whatever comes and goes between, the least of those that are there comes out.
func TestComeOutRising(t *testing.T) {
	for n := range 200 {
		walk(t, someSteps(n)[:n/4], someSteps(n+1))
	}
	walk(t, nil, someSteps(20000))
	walk(t, someSteps(5000), someSteps(5000))
}

// TestComeOutRisingWhileNoneComes is of P10.3: numbers that come out one behind the other never fall.
func TestComeOutRisingWhileNoneComes(t *testing.T) {
	q, last, count := halfPushed(someSteps(3000)), math.MinInt, 0
	for n, ok := q.Pop(); ok; n, ok = q.Pop() {
		if n < last {
			t.Fatalf("%d behind %d", n, last)
		}
		last = n
		count++
	}
	if count != 3000 {
		t.Errorf("%d came out", count)
	}
}

// filler is behind the length of lists that are handed in.
const filler = 77

// TestHandedInStays is of P10.4: neither a list nor the room behind it changes, by no call, nor later on.
func TestHandedInStays(t *testing.T) {
	for _, r := range allRows() {
		l := testheap.WithRoom(r.l, filler)
		kept := slices.Clone(testheap.Whole(l))
		queue.Sorted(l)
		q := queue.New(l)
		q.Push(1)
		q.Pop()
		for _, n := range []int{-5, 5, 0} {
			q.Push(n)
		}
		for range len(l) + 4 {
			q.Pop()
			q.Push(6)
			q.Pop()
		}
		if !slices.Equal(testheap.Whole(l), kept) {
			t.Fatalf("%v: became %v", kept, testheap.Whole(l))
		}
	}
}

// TestHandedInIsNotKept is of P10.4: what becomes of a list later, and of the room behind it, is nothing to the queue.
func TestHandedInIsNotKept(t *testing.T) {
	for _, r := range allRows() {
		l := testheap.WithRoom(r.l, filler)
		q, pushedInto, sorted := queue.New(l), queue.New(l), queue.Sorted(l)
		more := slices.Clone(r.rising)
		for _, n := range []int{8, -8, 1} {
			pushedInto.Push(n)
			more = append(more, n)
		}
		slices.Sort(more)
		clear(testheap.Whole(l))
		mustPop(t, q, r.rising)
		mustPop(t, pushedInto, more)
		if !slices.Equal(sorted, r.rising) {
			t.Fatalf("Sorted: %v, once its list was cleared, not %v", sorted, r.rising)
		}
	}
}

// TestQueuesAreApart is of P10.4: queues of one list share nothing.
func TestQueuesAreApart(t *testing.T) {
	l := testheap.WithRoom([]int{2, 1, 3}, filler)
	for _, from := range [][]int{l, l[:0]} {
		one, two := queue.New(from), queue.New(from)
		one.Push(-1)
		two.Push(9)
		rising := queue.Sorted(from)
		mustPop(t, one, append([]int{-1}, rising...))
		one.Push(8)
		mustPop(t, two, append(slices.Clone(rising), 9))
		mustPop(t, one, []int{8})
	}
}

// TestAnsweredIsNew is of P10.4: what is written into an answer, or behind it, is seen nowhere else.
func TestAnsweredIsNew(t *testing.T) {
	for _, r := range allRows() {
		l := testheap.WithRoom(r.rising, filler)
		kept := slices.Clone(testheap.Whole(l))
		q, one, two := queue.New(l), queue.Sorted(l), queue.Sorted(l)
		one = one[:cap(one)]
		for i := range one {
			one[i] = -99
		}
		if !slices.Equal(two, r.rising) || !slices.Equal(testheap.Whole(l), kept) {
			t.Fatalf("%v: written into an answer: %v and %v", r.rising, two, testheap.Whole(l))
		}
		mustPop(t, q, r.rising)
	}
}

// FuzzQueue is of P10.1, P10.2 and P10.3, of whatever comes: each byte is a number, or a step.
func FuzzQueue(f *testing.F) {
	f.Add([]byte{}, []byte{})
	f.Add([]byte{3, 1, 2}, []byte{1, 0, 1, 1, 1, 1})
	f.Add([]byte{200, 200, 0}, []byte{255, 254, 2, 255, 4, 129})
	f.Fuzz(func(t *testing.T, first, steps []byte) {
		numbers := func(l []byte) []int {
			var out []int
			for _, b := range l {
				out = append(out, int(int8(b)))
			}
			return out
		}
		walk(t, numbers(first), numbers(steps))
		o := other{}
		for _, n := range numbers(first) {
			o.push(n)
		}
		if l := queue.Sorted(numbers(first)); !slices.Equal(l, o) {
			t.Errorf("Sorted(%v): %v, not %v", first, l, o)
		}
	})
}
