package cycle_test

import (
	"slices"
	"testing"

	"flotsam/api"
	"flotsam/cycle"
	"flotsam/heap"
	"flotsam/mark"
	"flotsam/object"
	"flotsam/sound"
	"flotsam/take"
	"flotsam/testheap"
)

// game is a world whose mutators do whatever comes between the collector's turns, and what is to be held against it.
type game struct {
	t       *testing.T
	number  func(below int) int
	world   api.World
	turns   int   // of the marker, from the cycle's beginning on; 0 in none
	garbage []int // the objects that weren't reached as the cycle began
	cycles  int   // how many have ended
}

// newGame answers a game of a new world.
func newGame(t *testing.T, seed int, c api.Conf) *game {
	h, _ := heap.New(c.Pages)
	w := worldOf(h, slices.Repeat([]api.Mutator{resting()}, c.Mutators)...)
	w.Conf = c
	return &game{t: t, number: testheap.Numbers(seed), world: w}
}

// mostTurns is within how many turns of the marker the chapter tells that a cycle ends.
func mostTurns(c api.Conf) int {
	w := 32 * c.Pages
	return (w/2+3)*(2*w+8) + c.Mutators*(c.Roots+3) + c.Pages + 10
}

// mutate goes on with what a mutator has begun, or begins something.
func (g *game) mutate(who int) {
	g.t.Helper()
	g.world = testheap.KeptWorld(g.world)
	m := &g.world.Mutators[who]
	switch m.State {
	case api.AtTake:
		g.push(m, ref(m.Obj))
	case api.AtPush:
		g.push(m, m.Val)
	case api.AtStore:
		g.world.Heap, _ = object.Set(g.world.Heap, m.Obj, m.Op.B, m.Val)
		m.State = api.AtRest
	default:
		g.begin(who, m)
	}
	g.mustBeWhole()
}

// push pushes a value, and what was begun ends.
func (g *game) push(m *api.Mutator, v api.Value) {
	m.Stack, m.State = append(slices.Clone(m.Stack), v), api.AtRest
}

// begin begins what is among that which can be.
func (g *game) begin(who int, m *api.Mutator) {
	n := g.number(10)
	isFull := len(m.Stack) == g.world.Conf.Roots
	switch {
	case n < 4 && !isFull:
		g.alloc(who, g.number(1+g.number(api.MaxFields+1)))
	case n < 7 && len(m.Stack) > 0:
		g.touch(who, m, isFull)
	case n < 9 && len(m.Stack) > 0:
		m.Stack = m.Stack[:len(m.Stack)-1]
	case n == 9:
		g.world.Want = true
	}
}

// alloc takes an object for a mutator; the sweeper has a turn ahead of it.
func (g *game) alloc(who, fields int) {
	var what int
	if g.world, what = cycle.Sweeper(g.world); what == api.EvSwept {
		g.end()
	}
	h, caches, at, ok := take.Take(g.world.Heap, cycle.Caches(g.world), who, fields)
	if !ok {
		g.world.Want = true
		return
	}
	g.world.Heap = h
	for i := range g.world.Mutators {
		g.world.Mutators[i].Cache = caches[i]
	}
	g.world.Mutators[who].Obj, g.world.Mutators[who].State = at, api.AtTake
}

// touch reads a field of an object that a mutator holds, or begins to write one.
func (g *game) touch(who int, m *api.Mutator, isFull bool) {
	v := m.Stack[g.number(len(m.Stack))]
	count := testheap.HeaderAt(g.world.Heap, v.N).Count
	if v.Kind != api.Ref || count == 0 {
		return
	}
	m.Op.B = g.number(count)
	old, _ := object.Field(g.world.Heap, v.N, m.Op.B)
	if g.number(3) == 0 && !isFull {
		m.Val, m.State = old, api.AtPush
		return
	}
	m.Obj, m.Val, m.State = v.N, m.Stack[g.number(len(m.Stack))], api.AtStore
	if g.world.Phase == api.Mark {
		g.world.Heap, g.world.Marker = mark.Note(g.world.Heap, g.world.Marker, who, old)
	}
}

// turn is the marker's turn; what befalls is held against what is promised.
func (g *game) turn() {
	g.t.Helper()
	isBegun := g.turns > 0
	var what int
	if g.world, what = cycle.Marker(g.world); what == api.EvNothing && !isBegun {
		return
	}
	g.turns++
	g.mustBeWhole()
	if isBegun == (what == api.EvSnapshot) || g.turns > mostTurns(g.world.Conf) {
		g.t.Fatalf("%d turns, then %d: %+v", g.turns, what, g.world)
	}
	switch what {
	case api.EvSnapshot:
		g.garbage = g.notReached()
	case api.EvMarked:
		g.mustBeMarked()
	case api.EvSwept:
		g.end()
	}
}

// end is a cycle's end, be it by the marker's turn or by the sweeper's.
func (g *game) end() {
	g.turns = 0
	g.cycles++
}

// notReached answers the objects that aren't reached from what mutators hold.
func (g *game) notReached() []int {
	reached := testheap.Reached(g.world.Heap, testheap.HeldBy(g.world.Mutators))
	return slices.DeleteFunc(object.List(g.world.Heap), func(at int) bool { return slices.Contains(reached, at) })
}

// mustBeMarked fails, if what is reached isn't black, what wasn't reached ahead of marking is, or the report's words don't
// sum to all.
func (g *game) mustBeMarked() {
	g.t.Helper()
	blacks, after := testheap.Blacks(g.world.Heap), g.notReached()
	for _, at := range object.List(g.world.Heap) {
		isBlack := slices.Contains(blacks, at)
		if !isBlack && !slices.Contains(after, at) {
			g.t.Fatalf("reached, and not black: %d in %+v", at, g.world)
		}
		if isBlack && slices.Contains(g.garbage, at) {
			g.t.Fatalf("not reached ahead of marking, and black: %d in %+v", at, g.world)
		}
	}
	r := g.world.Reports[len(g.world.Reports)-1]
	if r.Free+r.Live+r.Freed != len(g.world.Heap.Words) || r.Free < 0 || r.Freed < 0 || r.Floating < 0 || r.Floating > r.Live {
		g.t.Fatalf("the report %+v of %+v", r, g.world)
	}
	if r.Cycle != len(g.world.Reports) || r.Floating != testheap.WordsAt(g.world.Heap, slices.DeleteFunc(blacks, func(at int) bool { return !slices.Contains(after, at) })) {
		g.t.Fatalf("the report %+v of %+v", r, g.world)
	}
}

// mustBeWhole fails, if the world has lost its form, its heap isn't sound, or one holds a Ref to what is no object.
func (g *game) mustBeWhole() {
	g.t.Helper()
	if !cycle.Form(g.world) || !sound.Ok(g.world.Heap) {
		g.t.Fatalf("Form: %t, sound: %d: %+v", cycle.Form(g.world), sound.Check(g.world.Heap), g.world)
	}
	for _, v := range testheap.HeldBy(g.world.Mutators) {
		if v.Kind == api.Ref && !testheap.HeaderAt(g.world.Heap, v.N).Used {
			g.t.Fatalf("held, and no object: %v in %+v", v, g.world)
		}
	}
}

// anyConf answers a configuration that may be, of few pages, and of little room more often than not.
func anyConf(number func(below int) int) api.Conf {
	return api.Conf{
		Pages:    1 + number(4),
		Mutators: 1 + number(3),
		Roots:    1 + number(api.MaxRoots),
		Grey:     number(1 + number(api.MaxGrey+1)),
		Barrier:  number(1 + number(api.MaxBarrier+1)),
	}
}

// TestCyclesEnd is of P20.3: whatever mutators do between, cycles end in time by the marker's turns alone; worlds keep their
// form, and reports' words sum to all.
func TestCyclesEnd(t *testing.T) {
	cycles := 0
	for seed := range 150 {
		g := newGame(t, seed, anyConf(testheap.Numbers(1000+seed)))
		for range 600 {
			for range g.number(6) {
				g.mutate(g.number(g.world.Conf.Mutators))
			}
			g.turn()
		}
		cycles += g.cycles
	}
	if cycles < 500 {
		t.Errorf("but %d cycles have ended", cycles)
	}
}

// TestGarbageGoes is of P20.3: as all is let go, the next cycle frees all that mutators had; pages in their caches stay open.
func TestGarbageGoes(t *testing.T) {
	for seed := range 100 {
		g := newGame(t, seed, anyConf(testheap.Numbers(seed)))
		for range 200 {
			g.mutate(g.number(g.world.Conf.Mutators))
		}
		for i := range g.world.Mutators {
			g.world.Mutators[i].Stack, g.world.Mutators[i].State = nil, api.AtRest
		}
		used := heap.Used(g.world.Heap)
		g.world.Want = true
		g.turn()
		for g.turns > 0 {
			g.turn()
		}
		r := g.world.Reports[0]
		if heap.Used(g.world.Heap) != 0 || r != (api.Report{Cycle: 1, Free: 32*g.world.Conf.Pages - used, Freed: used}) {
			t.Fatalf("seed %d: %d words were used: %+v", seed, used, g.world)
		}
		for page, s := range g.world.Heap.Spans {
			if isKept := testheap.Stands(cycle.Caches(g.world), page); isKept != (s.State != api.SpanFree) {
				t.Fatalf("seed %d: the page %d: %+v", seed, page, g.world)
			}
		}
	}
}

// chained answers a world of full pages, each of whose objects refers to the one ahead of it, that one mutator holds by the last.
func chained(pages, class int) api.World {
	h, _ := heap.New(pages)
	last := 0
	for page := range pages {
		h, _ = heap.Open(h, page, class)
		for range 32 / testheap.WordsOf(class) {
			count := testheap.WordsOf(class) - 1
			laid, at, _ := heap.Lay(h, page, count)
			h, _ = object.Set(laid, at, count-1, ref(last))
			last = at
		}
	}
	w := worldOf(h, resting(ref(last)))
	w.Conf.Grey, w.Conf.Barrier, w.Want = 0, 0, true
	return w
}

// TestLongChains is of P20.3: where each look at all objects finds but one more, and there is no room, the cycle ends in time.
func TestLongChains(t *testing.T) {
	for _, pages := range []int{1, 2, 5, api.MaxPages} {
		for class := range api.Classes {
			w, what, turns := chained(pages, class), api.EvNothing, 0
			for what != api.EvSwept {
				if w, what = cycle.Marker(w); turns > mostTurns(w.Conf) {
					t.Fatalf("%d pages of the class %d: no end within %d turns", pages, class, turns)
				}
				turns++
			}
			if want := (api.Report{Cycle: 1, Live: 32 * pages}); w.Reports[0] != want {
				t.Errorf("%d pages of the class %d: %+v, not %+v", pages, class, w.Reports[0], want)
			}
		}
	}
}

// FuzzProgress is of P20.3: of whatever comes, byte by byte: the marker's turn, or a mutator's.
func FuzzProgress(f *testing.F) {
	f.Add([]byte{1, 2, 0, 0, 7, 0, 0, 0, 9, 1, 1, 1}, 3)
	f.Add([]byte{0, 0, 0, 0, 0, 0, 5, 5, 1}, 77)
	f.Fuzz(func(t *testing.T, turns []byte, seed int) {
		g := newGame(t, seed, anyConf(testheap.Numbers(seed)))
		for _, b := range turns {
			for range b / 4 {
				g.mutate(g.number(g.world.Conf.Mutators))
			}
			for range 1 + b%4 {
				g.turn()
			}
		}
	})
}
