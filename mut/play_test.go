package mut_test

import (
	"slices"
	"testing"

	"flotsam/api"
	"flotsam/cycle"
	"flotsam/heap"
	"flotsam/mut"
	"flotsam/sound"
	"flotsam/testheap"
)

// graph is what a world's mutators hold, and what of objects their operations come to, where nothing is ever swept: the fields
// of each object by its address, the newest one where several had it.
type graph struct {
	fields map[int][]api.Value
	stacks [][]api.Value
	held   []api.Mutator // in the midst of what they are
}

// reached answers the addresses of what is reached from what mutators hold.
func (g *graph) reached() map[int]bool {
	seen := map[int]bool{}
	todo := slices.Concat(g.stacks...)
	for _, m := range g.held {
		todo = append(todo, testheap.RegistersOf(m)...)
	}
	for len(todo) > 0 {
		v := todo[0]
		todo = todo[1:]
		if v.Kind == api.Ref && !seen[v.N] {
			seen[v.N] = true
			todo = append(todo, g.fields[v.N]...)
		}
	}
	return seen
}

// party is a world whose turns come in whatever order, and a graph that follows.
type party struct {
	t      *testing.T
	number func(below int) int
	world  api.World
	graph  graph
	turns  int // of the marker, from the cycle's beginning on; 0 in none
	ended  map[moment]int
	cycles int
}

// newParty answers a party of a new world.
func newParty(t *testing.T, seed int, c api.Conf) *party {
	h, _ := heap.New(c.Pages)
	w := worldOf(h, api.Idle, slices.Repeat([]api.Mutator{resting()}, c.Mutators)...)
	w.Conf, w.Cycle, w.Reports = c, 0, nil
	g := graph{fields: map[int][]api.Value{}, stacks: make([][]api.Value, c.Mutators), held: make([]api.Mutator, c.Mutators)}
	return &party{t: t, number: testheap.Numbers(seed), world: w, graph: g, ended: map[moment]int{}}
}

// fail fails, and tells of the world.
func (p *party) fail(why string, who int, o api.Op, e api.Event) {
	p.t.Helper()
	p.t.Fatalf("%s: %d, %+v: %+v: %+v; %+v", why, who, o, e, p.world, p.graph)
}

// mutate is a mutator's turn; what comes of it is held against the graph.
func (p *party) mutate(who int, o api.Op) {
	p.t.Helper()
	was := p.world
	m := was.Mutators[who]
	var e api.Event
	p.world, e = mut.Turn(was, who, o)
	if m.State == api.AtRest && e.Err != testheap.ErrorOf(was.Heap, p.graph.stacks[who], was.Conf.Roots, o) {
		p.fail("the error", who, o, e)
	}
	if isDone := p.world.Mutators[who].State == api.AtRest; e.Who != who || isDone != (e.What == api.EvDone) || !isDone && e != work(who) {
		p.fail("the event", who, o, e)
	}
	switch {
	case e.Err != api.OK:
		p.mustChangeNothing(was, who, o, e)
	default:
		p.follow(who, m, o, e)
	}
	if e.What == api.EvDone {
		p.ended[moment{state: m.State, err: e.Err}]++
	}
	if was.Phase == api.Sweep && p.world.Phase == api.Idle {
		p.end()
	}
	p.mustAgree(who, o, e)
}

// mustChangeNothing fails, if an operation is refused, and by this turn something is otherwise than Want, or that is as it was
// though there was no room.
func (p *party) mustChangeNothing(was api.World, who int, o api.Op, e api.Event) {
	p.t.Helper()
	p.graph.held[who] = api.Mutator{}
	was.Mutators = slices.Clone(was.Mutators)
	was.Mutators[who] = api.Mutator{Stack: p.graph.stacks[who], Cache: was.Mutators[who].Cache}
	was.Want = was.Want || e.Err == api.ErrSpace
	if !testheap.SameWorld(p.world, was) || e != refused(who, e.Err) {
		p.fail("refused", who, o, e)
	}
}

// follow does in the graph what a mutator's turn is to do that isn't refused.
func (p *party) follow(who int, m api.Mutator, o api.Op, e api.Event) {
	p.t.Helper()
	g, stack := &p.graph, p.graph.stacks[who]
	held := &g.held[who]
	var v api.Value
	switch m.State {
	case api.AtRest:
		v = p.begin(who, o)
	case api.AtClaim:
		if at := p.world.Mutators[who].Obj; p.world.Mutators[who].State == api.AtTake {
			if g.reached()[at] {
				p.fail("another one is there", who, o, e)
			}
			g.fields[at] = make([]api.Value, held.Op.A)
			held.State, held.Obj = api.AtTake, at
		}
	case api.AtTake:
		v = ref(held.Obj)
	case api.AtPush:
		v = held.Val
	case api.AtStore:
		g.fields[held.Obj][held.Op.B] = held.Val
	}
	if e.Val != v {
		p.fail("the value", who, o, e)
	}
	pushes := m.State == api.AtTake || m.State == api.AtPush || m.State == api.AtRest && (o.Kind == api.OpDup || o.Kind == api.OpInt)
	if pushes {
		g.stacks[who] = append(slices.Clone(stack), v)
	}
	if e.What == api.EvDone {
		*held = api.Mutator{}
	}
}

// begin does in the graph what the first turn of an operation is to do, and answers what that pushes.
func (p *party) begin(who int, o api.Op) api.Value {
	g, stack := &p.graph, p.graph.stacks[who]
	switch o.Kind {
	case api.OpAlloc:
		g.held[who] = api.Mutator{State: api.AtClaim, Op: o}
	case api.OpRead:
		g.held[who] = api.Mutator{State: api.AtPush, Op: o, Val: g.fields[stack[o.A].N][o.B]}
	case api.OpWrite:
		g.held[who] = api.Mutator{State: api.AtStore, Op: o, Obj: stack[o.A].N, Val: stack[o.C]}
	case api.OpDup:
		return stack[o.A]
	case api.OpInt:
		return num(o.A)
	case api.OpPop:
		g.stacks[who] = slices.Clone(stack[:len(stack)-1])
	case api.OpRequest:
		if !p.world.Want {
			p.fail("none is asked for", who, o, api.Event{})
		}
	}
	return api.Value{}
}

// mustAgree fails, if the world has lost its form, its heap isn't sound, one who is to push has no room, or a mutator's stack,
// or something that is reached, isn't as in the graph.
func (p *party) mustAgree(who int, o api.Op, e api.Event) {
	p.t.Helper()
	w := p.world
	if !cycle.Form(w) || !sound.Ok(w.Heap) {
		p.fail("the form, or the heap", who, o, e)
	}
	for i, m := range w.Mutators {
		if isToPush := m.State >= api.AtClaim && m.State <= api.AtPush; isToPush && len(m.Stack) >= w.Conf.Roots {
			p.fail("no room", who, o, e)
		}
		if !slices.Equal(m.Stack, p.graph.stacks[i]) || m.State != p.graph.held[i].State {
			p.fail("the stack", who, o, e)
		}
	}
	for at := range p.graph.reached() {
		if !testheap.HeaderAt(w.Heap, at).Used || !slices.Equal(testheap.Fields(w.Heap, at), p.graph.fields[at]) {
			p.fail("an object", who, o, e)
		}
	}
}

// collect is the marker's turn, or the sweeper's.
func (p *party) collect(isMarker bool) {
	p.t.Helper()
	what, isBegun := 0, p.world.Phase != api.Idle
	if isMarker {
		p.world, what = cycle.Marker(p.world)
		if isBegun || what == api.EvSnapshot {
			p.turns++
		}
	} else {
		p.world, what = cycle.Sweeper(p.world)
	}
	if what == api.EvSwept {
		p.end()
	}
	c := p.world.Conf
	words := 32 * c.Pages
	if p.turns > (words/2+3)*(2*words+8)+c.Mutators*(c.Roots+3)+c.Pages+10 {
		p.t.Fatalf("%d turns of the marker: %+v", p.turns, p.world)
	}
	p.mustAgree(-1, api.Op{}, api.Event{What: what})
}

// end is a cycle's end.
func (p *party) end() {
	p.turns = 0
	p.cycles++
}

// anyTurn is a turn of whoever it is.
func (p *party) anyTurn() {
	p.t.Helper()
	switch n := p.number(9); {
	case n < 6:
		who := p.number(p.world.Conf.Mutators)
		p.mutate(who, p.anyOp(who))
	default:
		p.collect(n > 6)
	}
}

// anyOp answers an operation, less often one that lets go of something.
func (p *party) anyOp(who int) api.Op {
	o := anyOp(p.number, p.world.Mutators[who])
	if p.number(3) == 0 {
		return alloc(p.number(1 + p.number(api.MaxFields+1)))
	}
	return o
}

// anyConf answers a configuration that may be, of few pages, and of little room more often than not.
func anyConf(number func(below int) int) api.Conf {
	return api.Conf{
		Pages:    1 + number(4),
		Mutators: 1 + number(3),
		Roots:    1 + number(api.MaxRoots),
		Grey:     number(1 + number(api.MaxGrey+1)),
		Barrier:  number(1 + number(api.MaxBarrier+1)),
	}
}

// TestPlay is of P21.1 and P21.2, and of P1 and P2: turns in whatever order, from new worlds on: each operation comes to what
// it does where nothing is ever swept; worlds keep their form; what is refused changes nothing.
func TestPlay(t *testing.T) {
	ended, cycles := map[moment]int{}, 0
	for seed := range 150 {
		p := newParty(t, seed, anyConf(testheap.Numbers(1000+seed)))
		for range 1500 {
			p.anyTurn()
		}
		for x, n := range p.ended {
			ended[x] += n
		}
		cycles += p.cycles
	}
	for _, x := range []moment{
		{state: api.AtRest}, {state: api.AtTake}, {state: api.AtPush}, {state: api.AtStore}, {state: api.AtClaim, err: api.ErrSpace},
		{err: api.ErrArg}, {err: api.ErrNil}, {err: api.ErrNone}, {err: api.ErrField}, {err: api.ErrFull}, {err: api.ErrKind},
	} {
		if ended[x] < 100 {
			t.Errorf("%+v: but %d times", x, ended[x])
		}
	}
	if cycles < 500 {
		t.Errorf("but %d cycles have ended", cycles)
	}
}

// TestRefusedAlloc is of P21.2: of an Alloc that finds no room all that is otherwise, from its beginning on, is Want and what
// is swept.
func TestRefusedAlloc(t *testing.T) {
	times := 0
	for seed := range 400 {
		p := newParty(t, seed, anyConf(testheap.Numbers(seed)))
		for range 200 {
			p.anyTurn()
		}
		for who, m := range p.world.Mutators {
			if m.State != api.AtRest {
				continue
			}
			was, w, e := p.world, p.world, work(who)
			for e.What == api.EvWork {
				w, e = mut.Turn(w, who, alloc(15))
			}
			if e.Err != api.ErrSpace {
				continue
			}
			times++
			for was.Phase == api.Sweep {
				was, _ = cycle.Sweeper(was)
			}
			if was.Want = true; !testheap.SameWorld(w, was) {
				t.Fatalf("refused: %+v; that was %+v", w, p.world)
			}
		}
	}
	if times < 30 {
		t.Errorf("but %d times", times)
	}
}

// TestFormStays is of P21.2: of worlds whose heap is sound, whose mutators are in the midst of whatever may be: they keep their
// form, though what the registers hold be no objects.
func TestFormStays(t *testing.T) {
	for seed := range 300 {
		p := newParty(t, seed, anyConf(testheap.Numbers(seed)))
		for range 100 + p.number(100) {
			p.anyTurn()
		}
		for who, m := range p.world.Mutators {
			for state := range 5 {
				w := testheap.KeptWorld(p.world)
				x := &w.Mutators[who]
				x.State, x.Op, x.Obj, x.Val = state, alloc(p.number(16)), p.number(len(w.Heap.Words)+9)-4, testheap.AnyValue(p.number, w.Heap)
				if len(m.Stack) == w.Conf.Roots && state != api.AtRest {
					x.Stack = x.Stack[:len(m.Stack)-1]
				}
				next, e := mustFollow(t, w, who, anyOp(p.number, m))
				if !cycle.Form(next) {
					t.Fatalf("%+v of %+v: %+v", e, w, next)
				}
			}
		}
	}
}

// TestGarbageGoes is of P3, beside P21.1: as all is let go, the next cycle frees all that mutators had.
func TestGarbageGoes(t *testing.T) {
	for seed := range 60 {
		p := newParty(t, seed, anyConf(testheap.Numbers(seed)))
		for range 400 {
			p.anyTurn()
		}
		for who := range p.world.Mutators {
			for p.world.Mutators[who].State != api.AtRest {
				p.mutate(who, request)
			}
			for len(p.world.Mutators[who].Stack) > 0 {
				p.mutate(who, pop)
			}
		}
		for p.world.Phase != api.Idle {
			p.collect(true)
		}
		p.mutate(0, request)
		p.collect(true)
		for p.world.Phase != api.Idle {
			p.collect(true)
		}
		if n := heap.Used(p.world.Heap); n != 0 {
			t.Fatalf("seed %d: %d words are used: %+v", seed, n, p.world)
		}
	}
}

// FuzzPlay is of P21.1 and P21.2, of whatever turns come: a byte is one, and the next one tells of the operation.
func FuzzPlay(f *testing.F) {
	f.Add([]byte{1, 2, 0, 0, 7, 0, 0, 0, 9, 1, 1, 1}, 3)
	f.Add([]byte{0, 0, 0, 0, 0, 0, 5, 5, 1, 255, 254, 128, 7, 6, 80}, 77)
	f.Fuzz(func(t *testing.T, turns []byte, seed int) {
		p := newParty(t, seed, anyConf(testheap.Numbers(seed)))
		turns = turns[:min(len(turns), 3000)]
		for i, b := range turns {
			next := int(turns[(i+1)%len(turns)])
			switch n := int(b) % 8; n {
			case 6, 7:
				p.collect(n == 7)
			default:
				p.mutate(n%p.world.Conf.Mutators, api.Op{Kind: int(b) / 8 % 8, A: next % 4, B: next / 4 % 4, C: next / 16 % 4})
			}
		}
	})
}
