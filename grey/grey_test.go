package grey_test

import (
	"math"
	"slices"
	"testing"

	"flotsam/api"
	"flotsam/grey"
	"flotsam/testheap"
)

// pushed are items that may be: 0 is what is answered where there is none.
var pushed = []int{0, 1, 2, 31, 32, 511, 512, 1 << 32, math.MaxInt32, math.MaxInt - 1, math.MaxInt}

// someItems are n of them, that fall and come again.
func someItems(n int) []int {
	var l []int
	for i := range n {
		l = append(l, (n-i)/2*5)
	}
	return l
}

// rightRows are rows of every room and length, a row that is nil, one that is empty, and such as have great items.
func rightRows() []api.Grey {
	rows := []api.Grey{{}, {Room: 16}, {Items: []int{}}, {Room: 5, Items: []int{}}}
	for room := range 17 {
		for n := range room + 1 {
			rows = append(rows, testheap.Row(room, someItems(n)...))
		}
	}
	for _, at := range pushed {
		rows = append(rows, testheap.Row(1, at), testheap.Row(2, at), testheap.Row(16, at, at, 3, at))
	}
	return rows
}

// mustPush fails, if Push answers anything else than the row with that at its end, where there is room; it answers the row.
func mustPush(t *testing.T, g api.Grey, at int) api.Grey {
	t.Helper()
	want, can := g, at >= 0 && len(g.Items) < g.Room
	if can {
		want.Items = append(slices.Clone(g.Items), at)
	}
	n, ok := grey.Push(g, at)
	if ok != can || !testheap.SameRow(n, want) {
		t.Fatalf("Push(%+v, %d): %+v, %t; not %+v, %t", g, at, n, ok, want, can)
	}
	return n
}

// mustPop fails, if Pop answers anything else than the row without its last item, and that; it answers the row.
func mustPop(t *testing.T, g api.Grey) api.Grey {
	t.Helper()
	want, last, can := g, 0, len(g.Items) > 0
	if can {
		want.Items, last = g.Items[:len(g.Items)-1], g.Items[len(g.Items)-1]
	}
	n, at, ok := grey.Pop(g)
	if ok != can || at != last || !testheap.SameRow(n, want) {
		t.Fatalf("Pop(%+v): %+v, %d, %t; not %+v, %d, %t", g, n, at, ok, want, last, can)
	}
	return n
}

// TestExample is of P13.1 and P13.2: the chapter's example.
func TestExample(t *testing.T) {
	g, ok := grey.New(1)
	if !ok {
		t.Fatal("New(1): false")
	}
	g, ok = grey.Push(g, 5)
	if !ok || !testheap.SameRow(g, testheap.Row(1, 5)) {
		t.Errorf("Push 5: %+v, %t", g, ok)
	}
	g, ok = grey.Push(g, 6)
	if ok || !testheap.SameRow(g, testheap.Row(1, 5)) {
		t.Errorf("Push 6: %+v, %t", g, ok)
	}
}

// TestRight is of P13.1: rooms of 0 to 16, as many items as that or fewer, each 0 or above, also more than once.
func TestRight(t *testing.T) {
	for _, g := range append(rightRows(), testheap.Row(2, 0, 0), testheap.Row(3, 9, 4, 9), testheap.Row(16, 15, 14, 13, 12, 11, 10, 9, 8, 7, 6, 5, 4, 3, 2, 1, 0)) {
		if !grey.Right(g) {
			t.Errorf("Right(%+v): false", g)
		}
	}
}

// TestWrongRoom is of P13.1: of such a row nothing is right, with items or without.
func TestWrongRoom(t *testing.T) {
	for _, room := range append([]int{17, 18, 20, 32, 256, 256 + 1, 256 + 16}, testheap.Far()...) {
		for _, n := range []int{0, 1, 2, 16, 17} {
			if g := testheap.Row(room, someItems(n)...); grey.Right(g) {
				t.Errorf("Right(%+v): true", g)
			}
		}
		if grey.Right(api.Grey{Room: room}) {
			t.Errorf("Right of the room %d: true", room)
		}
	}
}

// TestTooManyItems is of P13.1: one more than there is room for, and many more.
func TestTooManyItems(t *testing.T) {
	for room := range 17 {
		for _, n := range []int{room + 1, room + 2, room + 16, room + 256, room + 1<<16} {
			if grey.Right(testheap.Row(room, someItems(n)...)) {
				t.Errorf("Right of %d items, of the room %d: true", n, room)
			}
		}
	}
}

// TestItemsBelowNought is of P13.1: at each place of rows of each length, full or not.
func TestItemsBelowNought(t *testing.T) {
	for n := 1; n <= 16; n++ {
		for place := range n {
			for _, at := range []int{-1, -2, -32, -512, -1 << 32, math.MinInt32, math.MinInt, math.MinInt + 1} {
				items := someItems(n)
				items[place] = at
				if grey.Right(testheap.Row(n, items...)) || grey.Right(testheap.Row(16, items...)) {
					t.Errorf("Right of %v: true", items)
				}
			}
		}
	}
}

// TestNothingBehindCounts is of P13.1: what lies in the room behind a row's length is no item.
func TestNothingBehindCounts(t *testing.T) {
	for _, g := range rightRows() {
		g.Items = testheap.WithRoom(g.Items, -1)
		if !grey.Right(g) {
			t.Errorf("Right(%+v), with -1 behind it: false", g)
		}
	}
}

// TestNew is of P13.1: rows of each room, without items, that are right.
func TestNew(t *testing.T) {
	for room := range 17 {
		if g, ok := grey.New(room); !ok || !testheap.SameRow(g, api.Grey{Room: room}) || !grey.Right(g) {
			t.Errorf("New(%d): %+v, %t", room, g, ok)
		}
	}
}

// TestNewOfWrongRoom is of P13.1: Grey{} and false.
func TestNewOfWrongRoom(t *testing.T) {
	for _, room := range append([]int{17, 18, 20, 32, 256, 256 + 1, 256 + 16}, testheap.Far()...) {
		if g, ok := grey.New(room); ok || !testheap.SameRow(g, api.Grey{}) {
			t.Errorf("New(%d): %+v, %t", room, g, ok)
		}
	}
}

// TestPush is of P13.2: rows worked out by hand.
func TestPush(t *testing.T) {
	for _, x := range []struct {
		g    api.Grey
		at   int
		want []int
	}{
		{testheap.Row(1), 0, []int{0}},
		{testheap.Row(16), 7, []int{7}},
		{testheap.Row(2, 7), 0, []int{7, 0}},
		{testheap.Row(3, 7, 0), 9, []int{7, 0, 9}},
		{testheap.Row(4, 5, 5), 5, []int{5, 5, 5}},
		{testheap.Row(3, 9, 8), math.MaxInt, []int{9, 8, math.MaxInt}},
		{testheap.Row(16, 1, 2, 3, 4, 5, 6, 7, 8, 9, 10, 11, 12, 13, 14, 15), 16, []int{1, 2, 3, 4, 5, 6, 7, 8, 9, 10, 11, 12, 13, 14, 15, 16}},
	} {
		if n, ok := grey.Push(x.g, x.at); !ok || !testheap.SameRow(n, api.Grey{Room: x.g.Room, Items: x.want}) {
			t.Errorf("Push(%+v, %d): %+v, %t; not %v, true", x.g, x.at, n, ok, x.want)
		}
	}
}

// TestPushOfAll is of P13.2: into every row, what may be pushed and what may not.
func TestPushOfAll(t *testing.T) {
	for _, g := range rightRows() {
		for _, at := range append(testheap.Far(), pushed...) {
			if n := mustPush(t, g, at); !grey.Right(n) {
				t.Fatalf("Push(%+v, %d): %+v, that isn't right", g, at, n)
			}
		}
	}
}

// TestPushIsRefused is of P13.2: g and false, if there is no room, or at is below 0, or both.
func TestPushIsRefused(t *testing.T) {
	for _, x := range []struct {
		g  api.Grey
		at int
	}{
		{api.Grey{}, 0}, {api.Grey{}, 5}, {api.Grey{}, -1}, {testheap.Row(0), 0}, {testheap.Row(1, 5), 6}, {testheap.Row(1, 5), 5}, {testheap.Row(1, 5), -6},
		{testheap.Row(3, 7, 0, 9), 4}, {testheap.Row(16, someItems(16)...), 0}, {testheap.Row(16, someItems(16)...), math.MaxInt},
		{testheap.Row(1), -1}, {testheap.Row(16), math.MinInt}, {testheap.Row(3, 7, 0), -1}, {testheap.Row(16, someItems(15)...), -32},
	} {
		if n, ok := grey.Push(x.g, x.at); ok || !testheap.SameRow(n, x.g) {
			t.Errorf("Push(%+v, %d): %+v, %t", x.g, x.at, n, ok)
		}
	}
}

// TestPop is of P13.2: rows worked out by hand.
func TestPop(t *testing.T) {
	for _, x := range []struct {
		g    api.Grey
		want []int
		at   int
	}{
		{testheap.Row(1, 5), nil, 5},
		{testheap.Row(16, 0), nil, 0},
		{testheap.Row(2, 3, 0), []int{3}, 0},
		{testheap.Row(3, 7, 0, 9), []int{7, 0}, 9},
		{testheap.Row(4, 5, 5, 5), []int{5, 5}, 5},
		{testheap.Row(3, 9, math.MaxInt), []int{9}, math.MaxInt},
		{testheap.Row(16, 1, 2, 3, 4, 5, 6, 7, 8, 9, 10, 11, 12, 13, 14, 15, 16), []int{1, 2, 3, 4, 5, 6, 7, 8, 9, 10, 11, 12, 13, 14, 15}, 16},
	} {
		if n, at, ok := grey.Pop(x.g); !ok || at != x.at || !testheap.SameRow(n, api.Grey{Room: x.g.Room, Items: x.want}) {
			t.Errorf("Pop(%+v): %+v, %d, %t; not %v, %d, true", x.g, n, at, ok, x.want, x.at)
		}
	}
}

// TestPopOfAll is of P13.2: every row, till nothing is left.
func TestPopOfAll(t *testing.T) {
	for _, g := range rightRows() {
		for range len(g.Items) + 2 {
			g = mustPop(t, g)
			if !grey.Right(g) {
				t.Fatalf("%+v isn't right", g)
			}
		}
	}
}

// TestPopOfNone is of P13.2: g, 0 and false, whatever lies behind the row's length.
func TestPopOfNone(t *testing.T) {
	for room := range 17 {
		for _, g := range []api.Grey{{Room: room}, {Room: room, Items: []int{}}, testheap.Row(room)} {
			if n, at, ok := grey.Pop(g); ok || at != 0 || !testheap.SameRow(n, g) {
				t.Errorf("Pop(%+v): %+v, %d, %t", g, n, at, ok)
			}
		}
	}
}

// TestLastPushedIsFirstPopped is of P13.3: of rows of each room, filled, what was refused not among them.
func TestLastPushedIsFirstPopped(t *testing.T) {
	for room := range 17 {
		g, _ := grey.New(room)
		for i := range room + 3 {
			g, _ = grey.Push(g, i*i%7)
			g, _ = grey.Push(g, -1-i)
		}
		for i := room - 1; i >= 0; i-- {
			n, at, ok := grey.Pop(g)
			if !ok || at != i*i%7 {
				t.Fatalf("room %d: Pop: %d, %t; not %d", room, at, ok, i*i%7)
			}
			g = n
		}
		if n, at, ok := grey.Pop(g); ok || at != 0 || !testheap.SameRow(n, api.Grey{Room: room}) {
			t.Fatalf("room %d: Pop of nothing: %+v, %d, %t", room, n, at, ok)
		}
	}
}

// TestPushedIsPopped is of P13.3: a row is as it was, once what was pushed is popped.
func TestPushedIsPopped(t *testing.T) {
	for _, g := range rightRows() {
		for _, at := range pushed {
			n, ok := grey.Push(g, at)
			if !ok {
				continue
			}
			if back, last, ok := grey.Pop(n); !ok || last != at || !testheap.SameRow(back, g) {
				t.Fatalf("%+v: %d was pushed, %d popped, %t: %+v", g, at, last, ok, back)
			}
		}
	}
}

// walk holds a row of so much room, and a list, against each other: an odd step pops, the others push half of themselves.
func walk(t *testing.T, room int, steps []int) {
	t.Helper()
	g, ok := grey.New(room)
	if !ok {
		t.Fatalf("New(%d): false", room)
	}
	var order []int
	for i, step := range steps {
		want, can := 0, len(order) > 0
		if step%2 == 0 {
			n, ok := grey.Push(g, step/2)
			if can = step >= 0 && len(order) < room; can {
				order = append(order, step/2)
			}
			if ok != can {
				t.Fatalf("step %d: Push(%+v, %d): %t", i, g, step/2, ok)
			}
			g = n
		} else {
			n, at, ok := grey.Pop(g)
			if can {
				want, order = order[len(order)-1], order[:len(order)-1]
			}
			if ok != can || at != want {
				t.Fatalf("step %d: Pop(%+v): %d, %t; not %d, %t", i, g, at, ok, want, can)
			}
			g = n
		}
		if !testheap.SameRow(g, api.Grey{Room: room, Items: order}) || !grey.Right(g) {
			t.Fatalf("step %d: %+v, not %v", i, g, order)
		}
	}
}

// TestWalks is of P13.2 and P13.3: whatever comes and goes between.
func TestWalks(t *testing.T) {
	for room := range 17 {
		next := testheap.Numbers(room)
		var steps []int
		for range 3000 {
			steps = append(steps, next(130)-20)
		}
		walk(t, room, steps)
	}
}

// branch goes on from a row with each of three steps, so many deep, and fails, if the row, or one that comes of it, becomes
// another by what its fellows do.
func branch(t *testing.T, g api.Grey, deep int) {
	t.Helper()
	if deep == 0 {
		return
	}
	was := testheap.KeptRow(g)
	one, two, less := mustPush(t, g, 2*deep), mustPush(t, g, 2*deep+1), mustPop(t, g)
	nexts := []api.Grey{one, two, less}
	keep := []api.Grey{testheap.KeptRow(one), testheap.KeptRow(two), testheap.KeptRow(less)}
	for _, n := range nexts {
		branch(t, n, deep-1)
	}
	for i, n := range nexts {
		if !testheap.SameRow(n, keep[i]) {
			t.Fatalf("%+v, that was %+v", n, keep[i])
		}
	}
	if !testheap.UntouchedRow(g, was) {
		t.Fatalf("%+v, that was %+v", testheap.Whole(g.Items), testheap.Whole(was.Items))
	}
}

// TestRowsThatGrowFromOne is of P13.4: whatever comes of one row, each is its own.
func TestRowsThatGrowFromOne(t *testing.T) {
	for _, room := range []int{0, 1, 2, 3, 5, 16} {
		g, _ := grey.New(room)
		branch(t, g, 7)
		branch(t, testheap.Row(room), 5)
		branch(t, testheap.Row(room, someItems(room/2)...), 6)
		branch(t, testheap.Row(room, someItems(room)...), 5)
	}
}

// TestStays is of P13.4: no call changes a row, or the room behind its list.
func TestStays(t *testing.T) {
	for _, g := range rightRows() {
		was := testheap.KeptRow(g)
		grey.Right(g)
		for _, at := range []int{-1, 0, 5, math.MaxInt} {
			grey.Push(g, at)
		}
		grey.Pop(g)
		if !testheap.UntouchedRow(g, was) {
			t.Fatalf("%+v: became %+v", testheap.Whole(was.Items), testheap.Whole(g.Items))
		}
	}
}

// TestNewMemory is of P13.4: what is written into an answer, or behind it, is seen nowhere else, nor what is written into
// the row that was handed in.
func TestNewMemory(t *testing.T) {
	push := func(g api.Grey) (api.Grey, bool) { return grey.Push(g, 4) }
	pop := func(g api.Grey) (api.Grey, bool) {
		n, _, ok := grey.Pop(g)
		return n, ok
	}
	for i, call := range []func(api.Grey) (api.Grey, bool){push, pop} {
		for _, g := range rightRows() {
			g = testheap.KeptRow(g)
			was := testheap.KeptRow(g)
			one, ok := call(g)
			if !ok {
				continue
			}
			two, _ := call(g)
			want := testheap.KeptRow(two)
			testheap.ScrawlRow(one)
			if !testheap.UntouchedRow(g, was) || !testheap.SameRow(two, want) {
				t.Fatalf("call %d of %+v: written into its answer: %+v, and %+v", i, was, g, two)
			}
			testheap.ScrawlRow(g)
			if !testheap.SameRow(two, want) {
				t.Fatalf("call %d of %+v: written into that: %+v", i, was, two)
			}
		}
	}
}

// TestGrownHasNoRoomBehind is of the chapter's Ways: what is put behind a row that grew is put into memory of its own.
func TestGrownHasNoRoomBehind(t *testing.T) {
	for _, g := range rightRows() {
		n, ok := grey.Push(g, 4)
		if !ok {
			continue
		}
		if cap(n.Items) != len(n.Items) {
			t.Fatalf("Push(%+v, 4): room for %d items, of %d", g, cap(n.Items), len(n.Items))
		}
	}
}

// FuzzGrey is of P13.1 to P13.4, of whatever comes: each byte is an item, or a step.
func FuzzGrey(f *testing.F) {
	f.Add(1, []byte{5}, []byte{10, 12, 1, 1})
	f.Add(16, []byte{}, []byte{0, 2, 4, 255, 254, 3})
	f.Add(17, []byte{200}, []byte{})
	f.Add(-1, []byte{}, []byte{1})
	f.Fuzz(func(t *testing.T, room int, items, steps []byte) {
		numbers := func(l []byte) []int {
			var out []int
			for _, b := range l {
				out = append(out, int(int8(b)))
			}
			return out
		}
		is := room >= 0 && room <= 16
		g := testheap.Row(room, numbers(items)...)
		right := is && len(g.Items) <= room && !slices.ContainsFunc(g.Items, func(at int) bool { return at < 0 })
		if grey.Right(g) != right {
			t.Fatalf("Right(%+v): not %t", g, right)
		}
		want := api.Grey{}
		if is {
			want.Room = room
		}
		if n, ok := grey.New(room); ok != is || !testheap.SameRow(n, want) {
			t.Fatalf("New(%d): %+v, %t", room, n, ok)
		}
		if is {
			walk(t, room, numbers(steps))
		}
		// Of wrong rows nothing is promised.
		if right {
			branch(t, g, 4)
		}
	})
}
