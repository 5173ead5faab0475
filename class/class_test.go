package class_test

import (
	"math"
	"testing"

	"flotsam/api"
	"flotsam/class"
)

// row is what the chapter says of a class.
type row struct {
	class, words, blocks, fields int
}

// rows are all classes, by the chapter's own numbers.
var rows = []row{
	{0, 2, 16, 1},
	{1, 4, 8, 3},
	{2, 8, 4, 7},
	{3, 16, 2, 15},
}

// none are numbers of no class: beside the edges, and such as would be 0 to 3 in fewer bits.
var none = []int{
	-1, -2, -3, -4, -5, -8, -64, -256,
	4, 5, 6, 7, 8, 15, 16, 32, 63, 64, 65, 127, 128, 255, 256, 256 + 1,
	1 << 16, 1<<16 + 2, 1 << 32, 1<<32 + 3, -1 << 32, -1<<32 + 1,
	math.MaxInt32, math.MinInt32, math.MaxInt, math.MaxInt - 1, math.MinInt, math.MinInt + 1, math.MinInt + 3,
}

// noRoom are numbers of fields for which no block has room, or that are none: as none are chosen.
var noRoom = []int{
	-1, -2, -3, -15, -16, -17, -256, -1 << 32, -1<<32 + 1,
	16, 17, 18, 31, 32, 33, 63, 64, 127, 128, 255, 256, 256 + 7,
	1 << 16, 1<<16 + 15, 1 << 32, 1<<32 + 4, 1 << 60, -1 << 60,
	math.MaxInt32, math.MinInt32, math.MaxInt, math.MaxInt - 1, math.MinInt, math.MinInt + 1, math.MinInt + 15,
}

// TestClasses is of P4.1: the words of each class's blocks, the blocks of its pages, the fields of its blocks.
func TestClasses(t *testing.T) {
	for _, r := range rows {
		got := row{r.class, class.Words(r.class), class.Blocks(r.class), class.Fields(r.class)}
		if got != r {
			t.Errorf("%+v, not %+v", got, r)
		}
	}
}

// TestNoClass is of P4.1: of no class all three are 0.
func TestNoClass(t *testing.T) {
	for _, c := range none {
		got := row{c, class.Words(c), class.Blocks(c), class.Fields(c)}
		if got != (row{class: c}) {
			t.Errorf("%+v, of no class", got)
		}
	}
}

// TestOf is of P4.1: the least class with room, of each number of fields.
func TestOf(t *testing.T) {
	for fields, want := range []int{0, 0, 1, 1, 2, 2, 2, 2, 3, 3, 3, 3, 3, 3, 3, 3} {
		if c, ok := class.Of(fields); c != want || !ok {
			t.Errorf("Of(%d): %d, %t; not %d, true", fields, c, ok, want)
		}
	}
}

// TestOfNoRoom is of P4.1: 0 and false of fewer than 0, or more than 15.
func TestOfNoRoom(t *testing.T) {
	for _, fields := range noRoom {
		if c, ok := class.Of(fields); c != 0 || ok {
			t.Errorf("Of(%d): %d, %t; not 0, false", fields, c, ok)
		}
	}
}

// TestLimits is of P4.1: the classes are api's, and the greatest one's fields the most that an object has.
func TestLimits(t *testing.T) {
	if len(rows) != api.Classes || class.Fields(api.Classes-1) != api.MaxFields {
		t.Errorf("%d classes, %d fields", len(rows), class.Fields(api.Classes-1))
	}
	if _, ok := class.Of(api.MaxFields); !ok {
		t.Errorf("Of(%d): false", api.MaxFields)
	}
	if _, ok := class.Of(api.MaxFields + 1); ok {
		t.Errorf("Of(%d): true", api.MaxFields+1)
	}
}

// TestBlocksArePages is of P4.2: a page's blocks are its words, none left and none twice.
func TestBlocksArePages(t *testing.T) {
	for c := range api.Classes {
		if n := class.Blocks(c) * class.Words(c); n != api.PageWords {
			t.Errorf("class %d: %d words in a page's blocks", c, n)
		}
	}
}

// TestClassesDouble is of P4.1 and P4.2: each class's blocks are twice those ahead, and half as many.
func TestClassesDouble(t *testing.T) {
	for c := 1; c < api.Classes; c++ {
		if class.Words(c) != 2*class.Words(c-1) || 2*class.Blocks(c) != class.Blocks(c-1) {
			t.Errorf("class %d isn't twice the class %d", c, c-1)
		}
	}
}

// holds tells what is promised of Of, by the package's own Fields: there is room, and a class less wouldn't do.
func holds(fields int) bool {
	c, ok := class.Of(fields)
	if fields < 0 || fields > api.MaxFields {
		return c == 0 && !ok
	}
	if !ok || c < 0 || c >= api.Classes || class.Fields(c) < fields {
		return false
	}
	return c == 0 || class.Fields(c-1) < fields
}

// TestAClassLessWouldNotDo is of P4.2, of all numbers about those that have room, and of wrong ones.
func TestAClassLessWouldNotDo(t *testing.T) {
	for fields := -300; fields <= 300; fields++ {
		if !holds(fields) {
			t.Errorf("Of(%d): not the least with room", fields)
		}
	}
	for _, fields := range noRoom {
		if !holds(fields) {
			t.Errorf("Of(%d): not the least with room", fields)
		}
	}
}

// TestFieldsComeBack is of P4.2: a class is the least one with room for all the fields of its own blocks.
func TestFieldsComeBack(t *testing.T) {
	for c := range api.Classes {
		if got, ok := class.Of(class.Fields(c)); got != c || !ok {
			t.Errorf("Of(Fields(%d)): %d, %t", c, got, ok)
		}
		if got, ok := class.Of(class.Fields(c) + 1); ok != (c < api.Classes-1) || ok && got != c+1 {
			t.Errorf("Of(Fields(%d) + 1): %d, %t", c, got, ok)
		}
	}
}

// FuzzClass is of P4.1 and P4.2, of whatever comes.
func FuzzClass(f *testing.F) {
	for i, n := range none {
		f.Add(n, noRoom[i%len(noRoom)])
	}
	for fields := range 16 {
		f.Add(fields%4, fields)
	}
	f.Fuzz(func(t *testing.T, c, fields int) {
		want := row{class: c}
		if c >= 0 && c < len(rows) {
			want = rows[c]
		}
		if got := (row{c, class.Words(c), class.Blocks(c), class.Fields(c)}); got != want {
			t.Errorf("%+v, not %+v", got, want)
		}
		if !holds(fields) {
			t.Errorf("Of(%d): not the least with room", fields)
		}
	})
}
