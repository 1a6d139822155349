package graph

import (
	"math"
	"slices"
	"testing"
)

// nowhere are places that a list of so many doesn't have.
func nowhere(many int) []int {
	return []int{math.MinInt, math.MinInt + 1, -1 << 32, -many - 1, -2, -1, many, many + 1, 1 << 31, 1 << 32, 1<<32 + 1, math.MaxInt - 1, math.MaxInt}
}

// seen is all that a graph tells of itself.
type seen struct {
	roots, slots [][]int
	nodes        int
	reach        []int
}

// look is what a graph tells, of mutators and nodes that aren't there, too.
func look(g *Graph) seen {
	s := seen{nodes: g.Nodes(), reach: g.Reach()}
	for m := -1; m <= mostMutators; m++ {
		s.roots = append(s.roots, g.Roots(m))
	}
	for v := range g.Nodes() + 2 {
		s.slots = append(s.slots, g.Slots(v))
	}
	return s
}

// same tells whether two looks saw the same.
func (s seen) same(other seen) bool {
	return s.nodes == other.nodes && slices.Equal(s.reach, other.reach) &&
		slices.EqualFunc(s.roots, other.roots, slices.Equal[[]int]) &&
		slices.EqualFunc(s.slots, other.slots, slices.Equal[[]int])
}

// roots asks that a mutator has just these roots.
func roots(t *testing.T, g *Graph, m int, want ...int) {
	t.Helper()
	if got := g.Roots(m); !slices.Equal(got, want) {
		t.Errorf("Roots(%d) is %v, not %v", m, got, want)
	}
}

// slots asks that a node has just these slots.
func slots(t *testing.T, g *Graph, v int, want ...int) {
	t.Helper()
	if got := g.Slots(v); !slices.Equal(got, want) {
		t.Errorf("Slots(%d) is %v, not %v", v, got, want)
	}
}

// reach asks that just these nodes can be come to.
func reach(t *testing.T, g *Graph, want ...int) {
	t.Helper()
	if got := g.Reach(); !slices.Equal(got, want) {
		t.Errorf("Reach is %v, not %v", got, want)
	}
}

// number asks for a number, and true.
func number(t *testing.T, name string, want int) func(int, bool) {
	return func(got int, ok bool) {
		t.Helper()
		if got != want || !ok {
			t.Errorf("%s is %d and %v, not %d and true", name, got, ok, want)
		}
	}
}

// done asks that operations may be.
func done(t *testing.T, name string, l ...bool) {
	t.Helper()
	if slices.Contains(l, false) {
		t.Errorf("%s may not be: %v", name, l)
	}
}

// refused asks that an operation may not be, and changes nothing.
func refused(t *testing.T, g *Graph, name string, op func() (int, bool)) {
	t.Helper()
	before := look(g)
	if got, ok := op(); got != 0 || ok {
		t.Errorf("%s is %d and %v, not 0 and false", name, got, ok)
	}
	if !look(g).same(before) {
		t.Errorf("%s changed %v to %v", name, before, look(g))
	}
}

// zero is an operation without a number.
func zero(op func() bool) func() (int, bool) {
	return func() (int, bool) { return 0, op() }
}

// The chapter's example.
func TestTheExample(t *testing.T) {
	g := New(1, 2, -1)
	number(t, "Alloc", 1)(g.Alloc(0, 1))
	number(t, "Alloc", 2)(g.Alloc(0, 0))
	done(t, "Write", g.Write(0, 0, 0, 1))
	reach(t, g, 1, 2)
	done(t, "Pop", g.Pop(0), g.Pop(0))
	reach(t, g)
	if g.Nodes() != 2 {
		t.Errorf("Nodes is %d, not 2", g.Nodes())
	}
}

// P7.1
func TestNewHasSoManyMutators(t *testing.T) {
	for _, c := range []struct{ told, many int }{
		{math.MinInt, 0}, {-1, 0}, {0, 0}, {1, 1}, {2, 2}, {15, 15}, {16, 16}, {17, 16}, {1 << 32, 16}, {math.MaxInt, 16},
	} {
		g, bare := New(c.told, 2, 1), New(c.told, 2, -1)
		for m := range c.many {
			roots(t, g, m, 1)
			roots(t, bare, m)
			number(t, "Alloc", m+1)(bare.Alloc(m, 0))
		}
		for _, m := range nowhere(c.many) {
			roots(t, g, m)
			refused(t, g, "Alloc of nobody", func() (int, bool) { return g.Alloc(m, 0) })
		}
		if g.Nodes() != 1 {
			t.Errorf("of %d mutators Nodes is %d, not 1", c.told, g.Nodes())
		}
		if len(g.Reach()) != min(c.many, 1) {
			t.Errorf("of %d mutators Reach is %v", c.told, g.Reach())
		}
	}
}

// P7.1
func TestNewHasSoManyRootsAtMost(t *testing.T) {
	for _, c := range []struct{ told, most int }{
		{math.MinInt, 0}, {-1, 0}, {0, 0}, {1, 1}, {2, 2}, {8, 8}, {300, 300},
	} {
		g := New(2, c.told, -1)
		for i := range c.most {
			number(t, "Alloc", i+1)(g.Alloc(1, 0))
		}
		refused(t, g, "Alloc of one who is full", func() (int, bool) { return g.Alloc(1, 0) })
		if len(g.Roots(1)) != c.most || len(g.Roots(0)) != 0 {
			t.Errorf("of most %d there are %v and %v", c.told, g.Roots(0), g.Roots(1))
		}
	}
	g := New(1, math.MaxInt, 0)
	for range 1000 {
		done(t, "Dup", g.Dup(0, 0))
	}
	if len(g.Roots(0)) != 1001 {
		t.Errorf("there are %d roots, not 1001", len(g.Roots(0)))
	}
}

// P7.1
func TestNewHasACommonNode(t *testing.T) {
	for _, c := range []struct{ told, many int }{
		{0, 0}, {1, 1}, {2, 2}, {63, 63}, {64, 64}, {65, 64}, {1 << 32, 64}, {math.MaxInt, 64},
	} {
		g := New(3, 2, c.told)
		if g.Nodes() != 1 {
			t.Errorf("of %d slots Nodes is %d, not 1", c.told, g.Nodes())
		}
		slots(t, g, 1, make([]int, c.many)...)
		for m := range 3 {
			roots(t, g, m, 1)
		}
		reach(t, g, 1)
		number(t, "Alloc", 2)(g.Alloc(2, 0))
	}
}

// P7.1
func TestNewWithoutNodes(t *testing.T) {
	for _, told := range []int{-1, -2, -1 << 32, math.MinInt} {
		g := New(3, 2, told)
		if g.Nodes() != 0 {
			t.Errorf("of %d slots Nodes is %d, not 0", told, g.Nodes())
		}
		for m := range 3 {
			roots(t, g, m)
		}
		reach(t, g)
		number(t, "Alloc", 1)(g.Alloc(2, 0))
	}
}

// P7.1
func TestNoRootWhereNoneMayBe(t *testing.T) {
	for _, most := range []int{0, -1, math.MinInt} {
		g := New(2, most, 3)
		roots(t, g, 0)
		roots(t, g, 1)
		slots(t, g, 1, 0, 0, 0)
		reach(t, g)
		if g.Nodes() != 1 {
			t.Errorf("Nodes is %d, not 1", g.Nodes())
		}
		refused(t, g, "Dup", zero(func() bool { return g.Dup(0, 0) }))
		refused(t, g, "Pop", zero(func() bool { return g.Pop(0) }))
	}
}

// P7.1
func TestEachMutatorsRootsAreItsOwn(t *testing.T) {
	g := New(3, 4, 1)
	number(t, "Alloc", 2)(g.Alloc(0, 1))
	roots(t, g, 1, 1)
	number(t, "Alloc", 3)(g.Alloc(1, 1))
	done(t, "Dup", g.Dup(0, 0))
	roots(t, g, 0, 1, 2, 1)
	roots(t, g, 1, 1, 3)
	roots(t, g, 2, 1)
	done(t, "Pop", g.Pop(1), g.Pop(1))
	number(t, "Alloc", 4)(g.Alloc(1, 0))
	done(t, "Dup", g.Dup(1, 0))
	roots(t, g, 0, 1, 2, 1)
	roots(t, g, 1, 4, 4)
	roots(t, g, 2, 1)
	other := New(3, 4, 1)
	roots(t, other, 0, 1)
	roots(t, other, 1, 1)
}

// P7.1
func TestNoOperationIsOfAMutatorThatIsNotThere(t *testing.T) {
	for _, many := range []int{0, 1, 3, 16} {
		g := New(many, 3, 2)
		for _, m := range nowhere(many) {
			refused(t, g, "Alloc", func() (int, bool) { return g.Alloc(m, 1) })
			refused(t, g, "Read", func() (int, bool) { return g.Read(m, 0, 0) })
			refused(t, g, "Write", zero(func() bool { return g.Write(m, 0, 0, 0) }))
			refused(t, g, "Pop", zero(func() bool { return g.Pop(m) }))
			refused(t, g, "Dup", zero(func() bool { return g.Dup(m, 0) }))
		}
	}
}

// P7.2
func TestAlloc(t *testing.T) {
	g := New(2, 70, -1)
	for n := range 65 {
		number(t, "Alloc", n+1)(g.Alloc(n%2, n))
		slots(t, g, n+1, make([]int, n)...)
		if l := g.Roots(n % 2); l[len(l)-1] != n+1 || len(l) != n/2+1 {
			t.Errorf("behind Alloc %d roots are %v", n, l)
		}
		if g.Nodes() != n+1 {
			t.Errorf("Nodes is %d, not %d", g.Nodes(), n+1)
		}
	}
	for _, n := range nowhere(65) {
		refused(t, g, "Alloc", func() (int, bool) { return g.Alloc(0, n) })
	}
	number(t, "Alloc behind some that may not be", 66)(g.Alloc(0, 0))
}

// P7.2
func TestAllocIsOfANewNodeEachTime(t *testing.T) {
	g := New(1, 1, -1)
	for i := range 100 {
		number(t, "Alloc", i+1)(g.Alloc(0, 1))
		refused(t, g, "Alloc of one who is full", func() (int, bool) { return g.Alloc(0, 1) })
		roots(t, g, 0, i+1)
		reach(t, g, i+1)
		done(t, "Write", g.Write(0, 0, 0, 0))
		slots(t, g, i+1, i+1)
		done(t, "Pop", g.Pop(0))
	}
	slots(t, g, 7, 7)
}

// triangle has a node 1 whose slots are 2, none and 1; its roots are 1, 2 and
// none, and it may have one more.
func triangle(t *testing.T) *Graph {
	t.Helper()
	g := New(2, 4, -1)
	g.Alloc(0, 3)
	g.Alloc(0, 0)
	done(t, "Write", g.Write(0, 0, 0, 1), g.Write(0, 0, 2, 0))
	number(t, "Read", 0)(g.Read(0, 0, 1))
	roots(t, g, 0, 1, 2, 0)
	slots(t, g, 1, 2, 0, 1)
	return g
}

// P7.2
func TestRead(t *testing.T) {
	for i, want := range []int{2, 0, 1} {
		g := triangle(t)
		number(t, "Read", want)(g.Read(0, 0, i))
		roots(t, g, 0, 1, 2, 0, want)
		slots(t, g, 1, 2, 0, 1)
		roots(t, g, 1)
		refused(t, g, "Read of one who is full", func() (int, bool) { return g.Read(0, 0, i) })
		done(t, "Pop", g.Pop(0))
		roots(t, g, 0, 1, 2, 0)
	}
}

// P7.2
func TestReadThatMayNotBe(t *testing.T) {
	g := triangle(t)
	for _, a := range nowhere(3) {
		refused(t, g, "Read of no root", func() (int, bool) { return g.Read(0, a, 0) })
	}
	for _, i := range nowhere(3) {
		refused(t, g, "Read of no slot", func() (int, bool) { return g.Read(0, 0, i) })
	}
	for _, i := range append(nowhere(0), 0, 1) {
		refused(t, g, "Read of a node without slots", func() (int, bool) { return g.Read(0, 1, i) })
		refused(t, g, "Read of none", func() (int, bool) { return g.Read(0, 2, i) })
	}
	refused(t, g, "Read of another one's root", func() (int, bool) { return g.Read(1, 0, 0) })
}

// P7.2
func TestWrite(t *testing.T) {
	for i := range 3 {
		for b, v := range []int{1, 2, 0} {
			g := triangle(t)
			want := []int{2, 0, 1}
			want[i] = v
			done(t, "Write", g.Write(0, 0, i, b))
			slots(t, g, 1, want...)
			slots(t, g, 2)
			roots(t, g, 0, 1, 2, 0)
			roots(t, g, 1)
		}
	}
}

// P7.2
func TestWriteIsSeenByAll(t *testing.T) {
	g := New(2, 3, 2)
	number(t, "Alloc", 2)(g.Alloc(0, 1))
	done(t, "Write", g.Write(0, 0, 1, 1), g.Write(0, 1, 0, 1))
	number(t, "Read of another one", 2)(g.Read(1, 0, 1))
	number(t, "Read of a node itself", 2)(g.Read(1, 1, 0))
	roots(t, g, 1, 1, 2, 2)
	done(t, "Write of one who is full", g.Write(1, 2, 0, 0))
	slots(t, g, 2, 1)
	slots(t, g, 1, 0, 2)
}

// P7.2
func TestWriteThatMayNotBe(t *testing.T) {
	g := triangle(t)
	for _, n := range nowhere(3) {
		refused(t, g, "Write to no root", zero(func() bool { return g.Write(0, n, 0, 0) }))
		refused(t, g, "Write to no slot", zero(func() bool { return g.Write(0, 0, n, 1) }))
		refused(t, g, "Write of no root", zero(func() bool { return g.Write(0, 0, 0, n) }))
	}
	for _, i := range append(nowhere(0), 0, 1) {
		refused(t, g, "Write to a node without slots", zero(func() bool { return g.Write(0, 1, i, 0) }))
		refused(t, g, "Write to none", zero(func() bool { return g.Write(0, 2, i, 0) }))
	}
	refused(t, g, "Write of another one's root", zero(func() bool { return g.Write(1, 0, 0, 0) }))
	number(t, "Alloc", 3)(g.Alloc(1, 1))
	refused(t, g, "Write of a root that another one has", zero(func() bool { return g.Write(1, 0, 0, 1) }))
}

// P7.2
func TestPop(t *testing.T) {
	g := triangle(t)
	number(t, "Alloc", 3)(g.Alloc(1, 0))
	done(t, "Pop", g.Pop(0))
	roots(t, g, 0, 1, 2)
	done(t, "Pop", g.Pop(0))
	roots(t, g, 0, 1)
	roots(t, g, 1, 3)
	slots(t, g, 1, 2, 0, 1)
	done(t, "Pop", g.Pop(0))
	roots(t, g, 0)
	refused(t, g, "Pop without roots", zero(func() bool { return g.Pop(0) }))
	refused(t, g, "Dup without roots", zero(func() bool { return g.Dup(0, 0) }))
	done(t, "Pop", g.Pop(1))
	refused(t, g, "Pop without roots", zero(func() bool { return g.Pop(1) }))
	if g.Nodes() != 3 {
		t.Errorf("Nodes is %d, not 3", g.Nodes())
	}
}

// P7.2
func TestDup(t *testing.T) {
	for a, want := range []int{1, 2, 0} {
		g := triangle(t)
		done(t, "Dup", g.Dup(0, a))
		roots(t, g, 0, 1, 2, 0, want)
		refused(t, g, "Dup of one who is full", zero(func() bool { return g.Dup(0, a) }))
	}
	g := triangle(t)
	for _, a := range nowhere(3) {
		refused(t, g, "Dup of no root", zero(func() bool { return g.Dup(0, a) }))
	}
	refused(t, g, "Dup of another one's root", zero(func() bool { return g.Dup(1, 0) }))
}

// P7.3
func TestAnswersAreNewMemory(t *testing.T) {
	g := New(2, 4, 2)
	first := g.Roots(0)
	first[0] = 9
	_ = append(first[:1], 8)
	slot := g.Slots(1)
	slot[0], slot[1] = 5, 6
	come := g.Reach()
	come[0] = 7
	roots(t, g, 0, 1)
	roots(t, g, 1, 1)
	slots(t, g, 1, 0, 0)
	reach(t, g, 1)
	l, s := g.Roots(0), g.Slots(1)
	_ = append(l, 9)
	number(t, "Alloc", 2)(g.Alloc(0, 0))
	_ = append(l, 9)
	roots(t, g, 0, 1, 2)
	done(t, "Write", g.Write(0, 0, 0, 1), g.Pop(0), g.Dup(0, 0))
	if !slices.Equal(l, []int{1}) || !slices.Equal(s, []int{0, 0}) {
		t.Errorf("answers changed to %v and %v", l, s)
	}
}

// P7.3
func TestOfWhatIsNotThere(t *testing.T) {
	g := New(2, 2, 3)
	for _, m := range nowhere(2) {
		roots(t, g, m)
	}
	for _, v := range append(nowhere(2), 0) {
		slots(t, g, v)
	}
}

// P7.3
func TestReachIsOfAllRoots(t *testing.T) {
	g := New(3, 3, -1)
	for _, m := range []int{2, 0, 1, 0, 2} {
		g.Alloc(m, 0)
	}
	reach(t, g, 1, 2, 3, 4, 5)
	done(t, "Pop", g.Pop(0))
	reach(t, g, 1, 2, 3, 5)
	done(t, "Pop", g.Pop(2), g.Dup(2, 0))
	reach(t, g, 1, 2, 3)
	done(t, "Pop", g.Pop(2))
	reach(t, g, 1, 2, 3)
	done(t, "Pop", g.Pop(1), g.Pop(2))
	reach(t, g, 2)
	done(t, "Pop", g.Pop(0))
	reach(t, g)
}

// P7.3
func TestReachIsThroughEachSlot(t *testing.T) {
	for i := range 64 {
		g := New(1, 3, 64)
		number(t, "Alloc", 2)(g.Alloc(0, 64))
		number(t, "Alloc", 3)(g.Alloc(0, 0))
		done(t, "Write", g.Write(0, 0, 63-i, 1), g.Write(0, 1, i, 2), g.Pop(0))
		reach(t, g, 1, 2, 3)
		done(t, "Pop", g.Pop(0))
		reach(t, g, 1, 2, 3)
		done(t, "Write", g.Write(0, 0, 63-i, 0))
		reach(t, g, 1)
	}
}

// P7.3
func TestReachOfSlotsBehindOneThatWasComeTo(t *testing.T) {
	g := New(1, 5, 4)
	for v := 2; v <= 4; v++ {
		number(t, "Alloc", v)(g.Alloc(0, 2))
	}
	// 1 has 3, none, 1 and 2; 3 has itself and 4; 2 has 3.
	done(t, "Write", g.Write(0, 0, 0, 2), g.Write(0, 0, 2, 0), g.Write(0, 0, 3, 1))
	done(t, "Write", g.Write(0, 2, 0, 2), g.Write(0, 2, 1, 3), g.Write(0, 1, 1, 2))
	done(t, "Pop", g.Pop(0), g.Pop(0), g.Pop(0))
	reach(t, g, 1, 2, 3, 4)
	reach(t, g, 1, 2, 3, 4)
	slots(t, g, 1, 3, 0, 1, 2)
	slots(t, g, 3, 3, 4)
	roots(t, g, 0, 1)
}

// P7.3
func TestReachOfARing(t *testing.T) {
	g := New(1, 3, -1)
	g.Alloc(0, 1)
	g.Alloc(0, 1)
	g.Alloc(0, 1)
	done(t, "Write", g.Write(0, 0, 0, 1), g.Write(0, 1, 0, 2), g.Write(0, 2, 0, 0))
	for range 2 {
		reach(t, g, 1, 2, 3)
		done(t, "Pop", g.Pop(0))
	}
	reach(t, g, 1, 2, 3)
	done(t, "Pop", g.Pop(0))
	reach(t, g)
	if g.Nodes() != 3 {
		t.Errorf("Nodes is %d, not 3", g.Nodes())
	}
}

// P7.3
func TestReachOfALongChain(t *testing.T) {
	const long = 200000
	g := New(2, 3, 1)
	want := []int{1}
	for range long {
		// The common node's slot has the chain's start, which is put behind a new one.
		v, _ := g.Alloc(0, 1)
		g.Read(0, 0, 0)
		if !g.Write(0, 1, 0, 2) || !g.Write(0, 0, 0, 1) || !g.Pop(0) || !g.Pop(0) {
			t.Fatalf("node %d isn't put into the chain", v)
		}
		want = append(want, v)
	}
	slots(t, g, 1, long+1)
	slots(t, g, 2, 0)
	slots(t, g, long+1, long)
	if got := g.Reach(); !slices.Equal(got, want) {
		t.Errorf("of a chain of %d nodes %d are come to", len(want), len(got))
	}
	done(t, "Pop", g.Pop(0), g.Pop(1))
	reach(t, g)
}

// P7.3
func TestNil(t *testing.T) {
	var g *Graph
	for _, n := range append(nowhere(2), 0, 1) {
		refused(t, g, "Alloc of nil", func() (int, bool) { return g.Alloc(n, 0) })
		refused(t, g, "Alloc of nil", func() (int, bool) { return g.Alloc(0, n) })
		refused(t, g, "Read of nil", func() (int, bool) { return g.Read(n, 0, 0) })
		refused(t, g, "Write of nil", zero(func() bool { return g.Write(n, 0, 0, 0) }))
		refused(t, g, "Pop of nil", zero(func() bool { return g.Pop(n) }))
		refused(t, g, "Dup of nil", zero(func() bool { return g.Dup(n, 0) }))
		roots(t, g, n)
		slots(t, g, n)
	}
	reach(t, g)
	if g.Nodes() != 0 {
		t.Errorf("Nodes of nil is %d", g.Nodes())
	}
}

// series tells the same numbers each time, each from low to high.
type series uint64

func (s *series) from(low, high int) int {
	*s = *s*6364136223846793005 + 1442695040888963407
	return low + int(uint64(*s)>>33)%(high-low+1)
}

// model is nodes, slots and roots as the chapter tells of them, plainly.
type model struct {
	most  int
	roots map[int][]int
	slots map[int][]int
}

// modelOf is the model of a new graph, of numbers that may be.
func modelOf(mutators, most, slots int) *model {
	l := &model{most: most, roots: map[int][]int{}, slots: map[int][]int{}}
	if slots >= 0 {
		l.slots[1] = make([]int, slots)
	}
	for m := range mutators {
		l.roots[m] = []int{}
		if slots >= 0 && most > 0 {
			l.roots[m] = []int{1}
		}
	}
	return l
}

// op is an operation by its kind and numbers, and its answer.
func (l *model) op(kind, m, a, i, b int) (int, bool) {
	mine, there := l.roots[m]
	if !there {
		return 0, false
	}
	isRoot := func(n int) bool { return n >= 0 && n < len(mine) }
	full := len(mine) >= l.most
	var is int
	isSlot := isRoot(a) && i >= 0 && i < len(l.slots[mine[a]])
	if isSlot {
		is = l.slots[mine[a]][i]
	}
	switch {
	case kind == 0 && i >= 0 && i <= 64 && !full:
		v := len(l.slots) + 1
		l.slots[v] = make([]int, i)
		l.roots[m] = append(mine, v)
		return v, true
	case kind == 1 && isSlot && !full:
		l.roots[m] = append(mine, is)
		return is, true
	case kind == 2 && isSlot && isRoot(b):
		l.slots[mine[a]][i] = mine[b]
		return 0, true
	case kind == 3 && len(mine) > 0:
		l.roots[m] = mine[:len(mine)-1]
		return 0, true
	case kind == 4 && isRoot(a) && !full:
		l.roots[m] = append(mine, mine[a])
		return 0, true
	}
	return 0, false
}

// reach is the nodes that can be come to: whatever is, till there is no more.
func (l *model) reach() []int {
	come := map[int]bool{}
	for _, mine := range l.roots {
		for _, v := range mine {
			come[v] = true
		}
	}
	for more := true; more; {
		more = false
		for v := range len(l.slots) + 1 {
			for _, next := range l.slots[v] {
				more = more || come[v] && !come[next]
				come[next] = come[next] || come[v]
			}
		}
	}
	var reached []int
	for v := range len(l.slots) + 1 {
		if v != 0 && come[v] {
			reached = append(reached, v)
		}
	}
	return reached
}

// look is what a graph like it tells.
func (l *model) look() seen {
	s := seen{nodes: len(l.slots), reach: l.reach()}
	for m := -1; m <= mostMutators; m++ {
		s.roots = append(s.roots, l.roots[m])
	}
	for v := range len(l.slots) + 2 {
		s.slots = append(s.slots, l.slots[v])
	}
	return s
}

// ask is an operation of a graph by its kind and numbers, and its answer.
func ask(g *Graph, kind, m, a, i, b int) (int, bool) {
	switch kind {
	case 0:
		return g.Alloc(m, i)
	case 1:
		return g.Read(m, a, i)
	case 2:
		return 0, g.Write(m, a, i, b)
	case 3:
		return 0, g.Pop(m)
	default:
		return 0, g.Dup(m, a)
	}
}

// P7.1 to P7.4, of many operations in a fixed order, most of which may be.
func TestManyOperations(t *testing.T) {
	n := series(7)
	for round := range 60 {
		mutators, most, slots := round%4, round%6, round%5-1
		g, l := New(mutators, most, slots), modelOf(mutators, most, slots)
		before := look(g)
		for step := range 200 {
			kind, m := n.from(0, 4), n.from(-1, mutators)
			a, i, b := n.from(-1, most), n.from(-1, 4), n.from(-1, most)
			got, ok := ask(g, kind, m, a, i, b)
			want, may := l.op(kind, m, a, i, b)
			if got != want || ok != may {
				t.Fatalf("round %d, step %d: kind %d of %d with %d, %d, %d is %d and %v, not %d and %v", round, step, kind, m, a, i, b, got, ok, want, may)
			}
			now := look(g)
			if !now.same(l.look()) {
				t.Fatalf("round %d, step %d: behind kind %d of %d with %d, %d, %d: %v, not %v", round, step, kind, m, a, i, b, now, l.look())
			}
			lost(t, before, now)
			before = now
		}
	}
}

// lost asks that a node that couldn't be come to can't again, but for a new one.
func lost(t *testing.T, before, now seen) {
	t.Helper()
	for _, v := range now.reach {
		if v <= before.nodes && !slices.Contains(before.reach, v) {
			t.Errorf("node %d was lost, and can be come to: %v, then %v", v, before, now)
		}
	}
}
