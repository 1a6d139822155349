package sweep

import (
	"iter"
	"math"
	"slices"
	"testing"

	"dustman/api"
	"dustman/cells"
	"dustman/layout"
	"dustman/stack"
)

const last = math.MaxUint64

// chart is a map of so many cells of each class, in parts of so many nodes.
func chart(t *testing.T, all [5]int, part int) *layout.Map {
	t.Helper()
	m, e := layout.New(layout.Config{Cells: all, Markers: 1, Mutators: 1, Deque: 2, Chunk: 1, Buffer: 1, Roots: 1, Sweep: part})
	if e != 0 {
		t.Fatalf("a map of %v: %v", all, e)
	}
	return m
}

// pair is two numbers as a word.
func pair(high, low uint64) uint64 { return high<<32 + low }

// full is memory at the begin of a cycle's Sweeping, in which all nodes are there,
// with that mark, and none is free.
func full(m *layout.Map, cycle, mark uint64) []uint64 {
	l := m.First()
	l[m.Sweep()] = pair(cycle%(1<<32), 0)
	for k := range 5 {
		l[m.Head(k)] = 0
	}
	for v := 1; v <= m.Nodes(); v++ {
		l[m.State(v)], l[m.Mark(v)], l[m.Next(v)] = 1, mark, 0
	}
	return l
}

// Events, as they are told.
func freed(v int) api.Event { return api.Event{Kind: 5, A: v} }
func swept(j int) api.Event { return api.Event{Kind: 6, A: j} }

// quiet is so many steps of which nothing is told.
func quiet(n int) []api.Event { return make([]api.Event, n) }

// is asks that memory has those words.
func is(t *testing.T, s *cells.Store, want []uint64) {
	t.Helper()
	if got := s.All(); !slices.Equal(got, want) {
		t.Errorf("memory is %v, not %v", got, want)
	}
}

// tells asks what a machine tells.
func tells(t *testing.T, x *Machine, part int, e api.Event) {
	t.Helper()
	for range 2 {
		if x.Event() != e || x.Part() != part {
			t.Errorf("it tells %v, and part %d; not %v, and part %d", x.Event(), x.Part(), e, part)
		}
	}
}

// goes does steps, of which none is the last one, with that part behind each, and
// which tell those events.
func goes(t *testing.T, x *Machine, s *cells.Store, part int, want ...api.Event) {
	t.Helper()
	for i, e := range want {
		count := s.Count()
		if x.Step(s) {
			t.Errorf("step %d is the last one", i)
		}
		if s.Count() != count+1 {
			t.Errorf("step %d did %d accesses", i, s.Count()-count)
		}
		tells(t, x, part, e)
	}
}

// ended does the last step, and further ones behind it, which do nothing.
func ended(t *testing.T, x *Machine, s *cells.Store, part int, e api.Event) {
	t.Helper()
	count := s.Count()
	if !x.Step(s) {
		t.Error("Step is false at the last one")
	}
	if s.Count() != count+1 {
		t.Errorf("the last step did %d accesses", s.Count()-count)
	}
	tells(t, x, part, e)
	stays(t, x, s, part)
}

// stays asks that a machine that is finished does nothing more.
func stays(t *testing.T, x *Machine, s *cells.Store, part int) {
	t.Helper()
	l, count := s.All(), s.Count()
	for range 3 {
		if !x.Step(s) {
			t.Error("Step is false behind the last one")
		}
		tells(t, x, part, none())
	}
	if s.Count() != count || !slices.Equal(s.All(), l) {
		t.Error("Step did something behind the last one")
	}
}

// sweeps does all steps of a machine that has a part, which frees those nodes.
func sweeps(t *testing.T, x *Machine, s *cells.Store, part int, want ...int) {
	t.Helper()
	var events, wanted []api.Event
	for finished, steps := false, 0; !finished; steps++ {
		if steps > 1000 {
			t.Fatal("steps don't end")
		}
		finished = x.Step(s)
		if e := x.Event(); e != none() {
			events = append(events, e)
		}
	}
	for _, v := range want {
		wanted = append(wanted, freed(v))
	}
	if wanted = append(wanted, swept(part)); !slices.Equal(events, wanted) {
		t.Errorf("it tells %v, not %v", events, wanted)
	}
	stays(t, x, s, part)
}

// The chapter's examples.
func TestTheExamples(t *testing.T) {
	m := chart(t, [5]int{1}, 1)
	l := full(m, 9, 9)
	s := cells.New(l...)
	x := New(m, 9)
	goes(t, x, s, -1, none())
	goes(t, x, s, 0, quiet(1+2)...)
	ended(t, x, s, 0, swept(0))
	l[m.Sweep()], l[m.Done()] = pair(9, 1), 1
	is(t, s, l)

	l = full(m, 9, 8)
	s = cells.New(l...)
	x = New(m, 9)
	goes(t, x, s, -1, none())
	goes(t, x, s, 0, none(), none(), none(), freed(1))
	goes(t, x, s, 0, quiet(3)...)
	ended(t, x, s, 0, swept(0))
	l[m.Sweep()], l[m.Done()], l[m.State(1)], l[m.Head(0)] = pair(9, 1), 1, 0, pair(1, 1)
	is(t, s, l)
}

// P16.1, P16.2: what each step does, and that it does nothing else.
func TestStepByStep(t *testing.T) {
	m := chart(t, [5]int{2, 2, 1}, 3)
	l := full(m, 7, 7)
	l[m.Sweep()], l[m.Done()] = pair(7, 0), 10
	l[m.State(2)], l[m.Mark(2)] = 0, 6
	l[m.Mark(1)], l[m.Mark(3)] = 6, 0
	l[m.Head(0)], l[m.Next(2)], l[m.Head(1)], l[m.Next(1)] = pair(5, 2), 0, pair(8, 4), 99
	s := cells.New(l...)
	x := New(m, 7)
	tells(t, x, -1, none())
	is(t, s, l)
	goes(t, x, s, -1, none()) // (1)
	is(t, s, l)
	goes(t, x, s, 0, none()) // (2)
	l[m.Sweep()] = pair(7, 1)
	is(t, s, l)
	goes(t, x, s, 0, none(), none()) // (3): node 1 is there, without the mark
	is(t, s, l)
	goes(t, x, s, 0, freed(1))
	l[m.State(1)] = 0
	is(t, s, l)
	goes(t, x, s, 0, none())
	is(t, s, l)
	goes(t, x, s, 0, none())
	l[m.Next(1)] = 2
	is(t, s, l)
	goes(t, x, s, 0, none())
	l[m.Head(0)] = pair(6, 1)
	is(t, s, l)
	goes(t, x, s, 0, none()) // node 2 isn't there
	is(t, s, l)
	goes(t, x, s, 0, none(), none()) // node 3, of another class
	is(t, s, l)
	goes(t, x, s, 0, freed(3))
	l[m.State(3)] = 0
	is(t, s, l)
	goes(t, x, s, 0, quiet(2)...)
	l[m.Next(3)] = 4
	is(t, s, l)
	goes(t, x, s, 0, none())
	l[m.Head(1)] = pair(9, 3)
	is(t, s, l)
	ended(t, x, s, 0, swept(0)) // (4)
	l[m.Done()] = 11
	is(t, s, l)
}

// P16.1: a node that is marked, behind one that isn't, and ahead of one.
func TestSomeAreMarked(t *testing.T) {
	m := chart(t, [5]int{4}, 4)
	l := full(m, 3, 2)
	l[m.Mark(2)], l[m.Mark(4)] = 3, 4
	s := cells.New(l...)
	x := New(m, 3)
	goes(t, x, s, -1, none())
	goes(t, x, s, 0, none())
	goes(t, x, s, 0, none(), none(), freed(1), none(), none(), none())
	goes(t, x, s, 0, none(), none())
	goes(t, x, s, 0, none(), none(), freed(3), none(), none(), none())
	goes(t, x, s, 0, none(), none())
	ended(t, x, s, 0, swept(0))
	l[m.Sweep()], l[m.Done()], l[m.State(1)], l[m.State(3)] = pair(3, 1), 1, 0, 0
	l[m.Head(0)], l[m.Next(3)] = pair(2, 3), 1
	is(t, s, l)
}

// P16.1 (1), (2): part by part, till there is none left; with each number of
// nodes in a part.
func TestPartByPart(t *testing.T) {
	for part := 1; part <= 16; part++ {
		m := chart(t, [5]int{2, 0, 3, 1, 5}, part)
		l := full(m, 4, 3)
		for v := 1; v <= m.Nodes(); v++ {
			if v%3 == 0 {
				l[m.Mark(v)] = 4
			}
		}
		s := cells.New(l...)
		j := 0
		for first := 1; first <= m.Nodes(); first += part {
			var want []int
			for v := first; v <= min(first+part-1, m.Nodes()); v++ {
				if v%3 != 0 {
					want = append(want, v)
				}
			}
			sweeps(t, New(m, 4), s, j, want...)
			j++
			if w := s.Load(m.Sweep()); w != pair(4, uint64(j)) {
				t.Errorf("Sweep is %x behind part %d", w, j-1)
			}
			if w := s.Load(m.Done()); w != uint64(j) {
				t.Errorf("Done is %d behind part %d", w, j-1)
			}
		}
		if j != m.Parts() {
			t.Errorf("there were %d parts, not %d", j, m.Parts())
		}
		l = s.All()
		ended(t, New(m, 4), s, -1, none())
		is(t, s, l)
		walk := func(k int) []int { return stack.Walk(l, m.Head(k), m.Next, 99) }
		if !slices.Equal(walk(0), []int{2, 1}) || !slices.Equal(walk(1), nil) || !slices.Equal(walk(2), []int{5, 4}) || !slices.Equal(walk(3), nil) || !slices.Equal(walk(4), []int{11, 10, 8, 7}) {
			t.Errorf("free are %v, %v, %v, %v, %v", walk(0), walk(1), walk(2), walk(3), walk(4))
		}
	}
}

// P16.1 (1): Sweep's part against Parts.
func TestNoPartLeft(t *testing.T) {
	m := chart(t, [5]int{3, 2}, 2) // 3 parts
	for _, part := range []uint64{3, 4, 5, 99, math.MaxInt32, 1 << 31, math.MaxUint32 - 1, math.MaxUint32} {
		l := full(m, 4, 3)
		l[m.Sweep()] = pair(4, part)
		s := cells.New(l...)
		x := New(m, 4)
		tells(t, x, -1, none())
		ended(t, x, s, -1, none())
		is(t, s, l)
	}
	for part, want := range [][]int{{1, 2}, {3, 4}, {5}} { // and where there is one
		l := full(m, 4, 3)
		l[m.Sweep()] = pair(4, uint64(part))
		s := cells.New(l...)
		sweeps(t, New(m, 4), s, part, want...)
		if w := s.Load(m.Sweep()); w != pair(4, uint64(part)+1) {
			t.Errorf("Sweep is %x behind part %d", w, part)
		}
	}
}

// P16.1 (1): Sweep's cycle against the cycle's rest by 2^32.
func TestCyclesOfSweep(t *testing.T) {
	m := chart(t, [5]int{1}, 1)
	cycles := []uint64{
		0, 1, 2, 9, math.MaxInt32, 1 << 31, math.MaxUint32 - 1, math.MaxUint32, 1 << 32, 1<<32 + 1, 1<<32 + 9, 7<<32 + 9,
		1<<60 - 1, 1 << 60, math.MaxInt64, 1 << 63, 1<<63 + 9, last - 1, last,
	}
	for _, cycle := range cycles {
		for _, high := range []uint64{0, 1, 2, 9, math.MaxInt32, 1 << 31, math.MaxUint32 - 1, math.MaxUint32} {
			l := full(m, high, cycle)
			s := cells.New(l...)
			x := New(m, cycle)
			if cycle%(1<<32) != high {
				ended(t, x, s, -1, none())
				is(t, s, l)
				continue
			}
			sweeps(t, x, s, 0)
			l[m.Sweep()], l[m.Done()] = pair(high, 1), 1
			is(t, s, l)
		}
	}
}

// P16.1 (2): where another one was ahead, or Sweep is another cycle's meanwhile,
// it has no part.
func TestPartIsLost(t *testing.T) {
	m := chart(t, [5]int{3}, 1)
	for _, w := range []uint64{pair(4, 2), pair(4, 0), pair(5, 1), pair(5, 0), pair(3, 1), pair(4, 3), 0, last} {
		l := full(m, 4, 3)
		l[m.Sweep()] = pair(4, 1)
		s := cells.New(l...)
		x := New(m, 4)
		goes(t, x, s, -1, none())
		s.Put(m.Sweep(), w)
		ended(t, x, s, -1, none())
		l[m.Sweep()] = w
		is(t, s, l)
	}
	l := full(m, 4, 3) // it is held against what it was, whatever it was between
	s := cells.New(l...)
	x := New(m, 4)
	goes(t, x, s, -1, none())
	s.Put(m.Sweep(), pair(4, 1))
	s.Put(m.Sweep(), pair(4, 0))
	sweeps(t, x, s, 0, 1)
}

// P16.1: Sweep is what it is at (1), not what it was when the machine was made.
func TestSweepIsSeenAtTheFirstStep(t *testing.T) {
	m := chart(t, [5]int{3}, 1)
	s := cells.New(full(m, 4, 3)...)
	x := New(m, 5)
	s.Put(m.Sweep(), pair(5, 2))
	sweeps(t, x, s, 2, 3)
	x = New(m, 4)
	s.Put(m.Sweep(), pair(4, 3))
	ended(t, x, s, -1, none())
}

// P16.1 (3): a node is there, if State is 1, and nothing else.
func TestStates(t *testing.T) {
	m := chart(t, [5]int{3}, 3)
	for _, state := range []uint64{0, 2, 3, 1 << 31, math.MaxUint32, 1 << 32, 1<<32 + 1, math.MaxInt64, 1 << 63, 1<<63 + 1, last - 1, last} {
		l := full(m, 4, 3)
		l[m.State(1)], l[m.State(2)], l[m.State(3)] = state, state, state
		s := cells.New(l...)
		x := New(m, 4)
		goes(t, x, s, -1, none())
		goes(t, x, s, 0, quiet(1+3)...)
		ended(t, x, s, 0, swept(0))
		l[m.Sweep()], l[m.Done()] = pair(4, 1), 1
		is(t, s, l)
	}
}

// P16.1 (3): marks and cycles are numbers from 0 to 2^64 - 1, and the whole of the
// cycle counts here.
func TestMarksAndCycles(t *testing.T) {
	m := chart(t, [5]int{0, 1}, 1)
	edges := []uint64{
		0, 1, 2, 8, 9, 10, math.MaxInt32, 1 << 31, math.MaxUint32, 1 << 32, 1<<32 + 8, 1<<32 + 9, 1<<32 + 10, 2<<32 + 1,
		1<<60 - 1, 1 << 60, math.MaxInt64, 1 << 63, 1<<63 + 1, last - 1, last,
	}
	for _, mark := range edges {
		for _, cycle := range edges {
			l := full(m, cycle, mark)
			s := cells.New(l...)
			x := New(m, cycle)
			l[m.Sweep()], l[m.Done()] = pair(cycle%(1<<32), 1), 1
			if mark < cycle {
				sweeps(t, x, s, 0, 1)
				l[m.State(1)], l[m.Head(1)] = 0, pair(1, 1)
			} else {
				sweeps(t, x, s, 0)
			}
			is(t, s, l)
		}
	}
}

// P16.1 (3): State and Mark are what they are at their steps.
func TestWhenWordsAreSeen(t *testing.T) {
	m := chart(t, [5]int{4}, 4)
	s := cells.New(full(m, 4, 3)...)
	x := New(m, 4)
	s.Put(m.State(1), 0)
	goes(t, x, s, -1, none())
	goes(t, x, s, 0, none())
	goes(t, x, s, 0, none()) // node 1
	s.Put(m.State(1), 1)
	goes(t, x, s, 0, none()) // node 2
	s.Put(m.State(2), 0)
	s.Put(m.Mark(2), 4)
	goes(t, x, s, 0, none())
	s.Put(m.Mark(2), 3)
	goes(t, x, s, 0, none(), none()) // node 3
	s.Put(m.Mark(3), 4)
	s.Put(m.State(3), 7)
	goes(t, x, s, 0, freed(3))
	s.Put(m.State(3), 1) // another node is made of it
	goes(t, x, s, 0, quiet(3)...)
	s.Put(m.State(4), 0)
	goes(t, x, s, 0, none()) // node 4
	ended(t, x, s, 0, swept(0))
	if a, b, c, d := s.Load(m.State(1)), s.Load(m.State(2)), s.Load(m.State(3)), s.Load(m.State(4)); a != 1 || b != 0 || c != 1 || d != 0 {
		t.Errorf("states are %d, %d, %d, %d", a, b, c, d)
	}
}

// P16.1 (3): each class has its own free ones, and the first one of them counts
// its turns round 2^32.
func TestHeadsOfClasses(t *testing.T) {
	m := chart(t, [5]int{1, 1, 1, 1, 1}, 1)
	for k := range 5 {
		for _, turns := range []uint64{0, 1, 7, math.MaxInt32, 1 << 31, math.MaxUint32 - 1, math.MaxUint32} {
			for _, front := range []uint64{0, 1, 5, 99, math.MaxUint32} {
				l := full(m, 4, 4)
				l[m.Sweep()], l[m.Mark(k+1)], l[m.Next(k+1)] = pair(4, uint64(k)), 3, 77
				for j := range 5 {
					l[m.Head(j)] = pair(turns, front)
				}
				s := cells.New(l...)
				sweeps(t, New(m, 4), s, k, k+1)
				l[m.Sweep()], l[m.Done()] = pair(4, uint64(k)+1), 1
				l[m.State(k+1)], l[m.Next(k+1)], l[m.Head(k)] = 0, front, pair((turns+1)%(1<<32), uint64(k)+1)
				is(t, s, l)
			}
		}
	}
}

// P16.1 (3): where others turn the head, that is tried again, and the rest isn't.
func TestCellIsFreedLater(t *testing.T) {
	m := chart(t, [5]int{3}, 2)
	l := full(m, 4, 3)
	l[m.Head(0)] = pair(2, 3)
	s := cells.New(l...)
	x := New(m, 4)
	goes(t, x, s, -1, none())
	goes(t, x, s, 0, none(), none(), none(), freed(1))
	goes(t, x, s, 0, quiet(2)...)
	s.Put(m.Head(0), pair(3, 0)) // another one took node 3
	goes(t, x, s, 0, quiet(1+2)...)
	s.Put(m.Head(0), pair(4, 3)) // and put it back
	goes(t, x, s, 0, quiet(1+3)...)
	l[m.Sweep()], l[m.State(1)], l[m.Next(1)], l[m.Head(0)] = pair(4, 1), 0, 3, pair(5, 1)
	is(t, s, l)
	goes(t, x, s, 0, none(), none(), freed(2))
	goes(t, x, s, 0, quiet(3)...)
	ended(t, x, s, 0, swept(0))
	l[m.State(2)], l[m.Next(2)], l[m.Head(0)], l[m.Done()] = 0, 1, pair(6, 2), 1
	is(t, s, l)
}

// P16.1 (4): what Done was may be anything.
func TestDone(t *testing.T) {
	m := chart(t, [5]int{1}, 1)
	for _, done := range []uint64{0, 1, 99, math.MaxUint32, 1<<63 - 1, last - 1, last} {
		l := full(m, 4, 4)
		l[m.Done()] = done
		s := cells.New(l...)
		sweeps(t, New(m, 4), s, 0)
		l[m.Sweep()], l[m.Done()] = pair(4, 1), done+1
		is(t, s, l)
	}
}

// P16.2
func TestNilMachine(t *testing.T) {
	m := chart(t, [5]int{1}, 1)
	s := cells.New(full(m, 4, 3)...)
	var x *Machine
	tells(t, x, -1, none())
	stays(t, x, s, -1)
	stays(t, x, nil, -1)
}

// P16.2
func TestNilMap(t *testing.T) {
	s := cells.New(5, 6, 7)
	for _, cycle := range []uint64{0, 1, 5, 1 << 32, last} {
		x := New(nil, cycle)
		if x == nil {
			t.Fatal("there is no machine")
		}
		tells(t, x, -1, none())
		stays(t, x, s, -1)
		stays(t, x, nil, -1)
	}
	is(t, s, []uint64{5, 6, 7})
	if s.Count() != 0 {
		t.Errorf("there were %d accesses", s.Count())
	}
}

// In nil memory, and in one without the words, each step ends.
func TestMemoryWithoutWords(t *testing.T) {
	m := chart(t, [5]int{2, 1}, 2)
	for _, s := range []*cells.Store{nil, cells.New(), cells.New(7, 7)} {
		for _, cycle := range []uint64{1, 7, math.MaxUint32, 1<<32 + 1} {
			x := New(m, cycle)
			if !x.Step(s) {
				t.Error("a Sweep of 0 is that of another cycle")
			}
			tells(t, x, -1, none())
		}
		for _, cycle := range []uint64{0, 1 << 32} {
			x := New(m, cycle)
			if x.Step(s) || !x.Step(s) {
				t.Error("a Sweep that isn't there isn't changed at the second step")
			}
			tells(t, x, -1, none())
		}
	}
	l := full(m, 4, 3)
	s := cells.New(l[:m.State(2)]...) // node 2 isn't there
	sweeps(t, New(m, 4), s, 0, 1)
	sweeps(t, New(m, 4), s, 1)
	s = cells.New(l[:m.Mark(1)]...) // its mark is 0, and its link nowhere
	sweeps(t, New(m, 4), s, 0, 1)
	if w := s.Load(m.Head(0)); w != pair(1, 1) {
		t.Errorf("Head is %x", w)
	}
}

// P16.2: each machine is told of its own steps alone.
func TestEachMachineIsItsOwn(t *testing.T) {
	m := chart(t, [5]int{4}, 2)
	l := full(m, 4, 4)
	l[m.Mark(1)], l[m.Mark(4)] = 3, 3
	s := cells.New(l...)
	x, y, z := New(m, 4), New(m, 4), New(m, 4)
	goes(t, x, s, -1, none())
	goes(t, y, s, -1, none())
	goes(t, y, s, 0, none())
	tells(t, x, -1, none())
	ended(t, x, s, -1, none())
	goes(t, z, s, -1, none())
	goes(t, z, s, 1, none(), none(), none(), none(), none(), freed(4))
	tells(t, y, 0, none())
	goes(t, y, s, 0, none(), none(), freed(1))
	tells(t, z, 1, freed(4))
	goes(t, z, s, 1, none(), none())
	goes(t, y, s, 0, none(), none(), none())
	tells(t, z, 1, none())
	goes(t, z, s, 1, quiet(1+3)...) // the head has turned
	ended(t, z, s, 1, swept(1))
	goes(t, y, s, 0, none(), none())
	ended(t, y, s, 0, swept(0))
	tells(t, x, -1, none())
	l[m.State(1)], l[m.State(4)], l[m.Next(4)], l[m.Head(0)] = 0, 0, 1, pair(2, 4)
	l[m.Sweep()], l[m.Done()] = pair(4, 2), 2
	is(t, s, l)
}

// series tells the same numbers each time, each from 0 on and below an end.
type series uint64

func (s *series) below(end int) int {
	*s = *s*6364136223846793005 + 1442695040888963407
	return int(uint64(*s)>>33) % end
}

// state is what a machine tells behind a step.
type state struct {
	finished bool
	part     int
	event    api.Event
}

// saying is a machine as the chapter's words have it, by the layers below.
type saying struct {
	m     *layout.Map
	s     *cells.Store
	cycle uint64
}

// sweep is the steps of a node; false: no more steps are asked for.
func (x *saying) sweep(part, v int, yield func(state) bool) bool {
	there := x.s.Load(x.m.State(v)) == 1
	if !yield(state{false, part, none()}) {
		return false
	}
	if !there {
		return true
	}
	marked := x.s.Load(x.m.Mark(v)) >= x.cycle
	if !yield(state{false, part, none()}) {
		return false
	}
	if marked {
		return true
	}
	x.s.Put(x.m.State(v), 0)
	if !yield(state{false, part, freed(v)}) {
		return false
	}
	push := stack.Push(x.m.Head(x.m.Class(v)), x.m.Next, v)
	for finished := false; !finished; {
		finished = push.Step(x.s)
		if !yield(state{false, part, none()}) {
			return false
		}
	}
	return true
}

// steps is its steps, one by one, each ahead of a yield that tells what is told
// behind it.
func (x *saying) steps() iter.Seq[state] {
	return func(yield func(state) bool) {
		w := x.s.Load(x.m.Sweep())
		cycle, part := w>>32, w%(1<<32)
		if cycle != x.cycle%(1<<32) || part >= uint64(x.m.Parts()) {
			yield(state{true, -1, none()})
			return
		}
		if !yield(state{false, -1, none()}) {
			return
		}
		if !x.s.Swap(x.m.Sweep(), w, w+1) {
			yield(state{true, -1, none()})
			return
		}
		j := int(part)
		if !yield(state{false, j, none()}) {
			return
		}
		size := x.m.Config().Sweep
		for v := j*size + 1; v <= (j+1)*size && v <= x.m.Nodes(); v++ {
			if !x.sweep(j, v, yield) {
				return
			}
		}
		x.s.Add(x.m.Done(), 1)
		yield(state{true, j, swept(j)})
	}
}

// P16.1, P16.2: against the chapter's words, whatever stands in memory, and
// whatever others do between the steps.
func TestAgainstTheWords(t *testing.T) {
	n := series(16)
	few := []uint64{0, 0, 1, 1, 2, 3, 4, 5, 6, 7, 9, 1<<32 + 1, 7<<32 + 2, math.MaxUint32, 1<<63 - 1, 1 << 63, last - 1, last}
	cycles := []uint64{0, 1, 2, 3, 4, 5, 5, 5, 5, 1 << 32, 1<<32 + 5, 7<<32 + 2, math.MaxUint32, 1 << 63, last}
	without, parts, frees := 0, 0, 0
	for range 6000 {
		m := chart(t, [5]int{n.below(4), n.below(3), 1 + n.below(2), n.below(2), n.below(2)}, 1+n.below(5))
		cycle := cycles[n.below(len(cycles))]
		v := 1 + n.below(m.Nodes())
		places := []int{
			m.Sweep(), m.Done(), m.Head(0), m.Head(m.Class(v)), m.Head(m.Class(v)), m.State(v), m.Mark(v), m.Next(v),
			m.State(1), m.Mark(1), m.State(m.Nodes()), m.Mark(m.Nodes()), 0, m.Len() - 1, -1,
		}
		l := full(m, cycle, cycle)
		l[m.Sweep()] += uint64(n.below(m.Parts() + 1))
		for i := range l {
			if n.below(8) == 0 || i >= m.Header(1) && n.below(2) == 0 {
				l[i] = few[n.below(len(few))]
			}
		}
		if n.below(8) == 0 {
			l = l[:n.below(len(l))]
		}
		a, b := cells.New(l...), cells.New(l...)
		x := New(m, cycle)
		next, stop := iter.Pull((&saying{m: m, s: b, cycle: cycle}).steps())
		is := state{part: -1}
		for step := range 80 {
			if n.below(6) == 0 {
				at, word := places[n.below(len(places))], few[n.below(len(few))]
				a.Put(at, word)
				b.Put(at, word)
			}
			if is.finished {
				is.event = none()
			} else {
				is, _ = next()
			}
			if got := (state{x.Step(a), x.Part(), x.Event()}); got != is {
				t.Fatalf("cycle %d, step %d: it is %v, not %v", cycle, step, got, is)
			}
			if !slices.Equal(a.All(), b.All()) || a.Count() != b.Count() {
				t.Fatalf("cycle %d, step %d: memory is %v, not %v; %d accesses, not %d", cycle, step, a.All(), b.All(), a.Count(), b.Count())
			}
			if is.event.Kind == api.EvFree {
				frees++
			}
		}
		stop()
		if is.finished && is.part >= 0 {
			parts++
		} else if is.finished {
			without++
		}
	}
	if without < 200 || parts < 200 || frees < 200 {
		t.Errorf("there were %d without a part, %d with one, and %d freed, alone", without, parts, frees)
	}
}

// run is markers that sweep, and others that take free cells, and make nodes of
// them, or put them back.
type run struct {
	m     *layout.Map
	s     *cells.Store
	cycle uint64
	sweep []*Machine // each marker's
	takes []*stack.Machine
	puts  []*stack.Machine
	log   []api.Event
	made  []int // those of which nodes were made, marked
}

// marker does a step of a marker, which begins anew when its part is swept.
func (r *run) marker(t *testing.T, i int) {
	t.Helper()
	if r.sweep[i] == nil {
		r.sweep[i] = New(r.m, r.cycle)
	}
	finished := r.sweep[i].Step(r.s)
	e := r.sweep[i].Event()
	if e != none() {
		r.log = append(r.log, e)
	}
	part := r.sweep[i].Part()
	if told := e.Kind == api.EvPart; told != (finished && part >= 0) || told && e.A != part {
		t.Fatalf("it tells %v of part %d, and finished is %v", e, part, finished)
	}
	if finished {
		r.sweep[i] = nil
	}
}

// other does a step of another one, which takes a cell of a class, and makes a
// node of it, or puts it back.
func (r *run) other(i, class int, make bool) {
	switch {
	case r.puts[i] != nil:
		if r.puts[i].Step(r.s) {
			r.puts[i] = nil
		}
	case r.takes[i] != nil:
		if !r.takes[i].Step(r.s) {
			return
		}
		v := r.takes[i].Item()
		r.takes[i] = nil
		if v == 0 {
			return
		}
		if make {
			r.s.Put(r.m.Mark(v), r.cycle)
			r.s.Put(r.m.State(v), 1)
			r.made = append(r.made, v)
			return
		}
		r.puts[i] = stack.Push(r.m.Head(r.m.Class(v)), r.m.Next, v)
	default:
		r.takes[i] = stack.Pop(r.m.Head(class), r.m.Next)
	}
}

// finish does steps till all parts are swept, and the others have nothing.
func (r *run) finish(t *testing.T, n *series) {
	t.Helper()
	for steps := 0; r.s.Load(r.m.Done()) < uint64(r.m.Parts()); steps++ {
		if steps > 20000 {
			t.Fatalf("of %d parts %d were swept", r.m.Parts(), r.s.Load(r.m.Done()))
		}
		r.marker(t, n.below(len(r.sweep)))
	}
	for i := range r.takes {
		for r.takes[i] != nil || r.puts[i] != nil {
			r.other(i, 0, true)
		}
	}
}

// P16.3, and what M4 says of it: in whatever order steps come, each part is swept
// by one, what was there without the mark is free, once, and all else as it was.
func TestSweptInSomeOrders(t *testing.T) {
	n := series(161)
	for range 500 {
		m := chart(t, [5]int{n.below(4), n.below(4), n.below(3), n.below(3), 1 + n.below(2)}, 1+n.below(6))
		l := full(m, 5, 5)
		free := [5][]int{}
		var white, black []int
		for v := 1; v <= m.Nodes(); v++ {
			k := m.Class(v)
			switch n.below(3) {
			case 0:
				l[m.State(v)], l[m.Mark(v)], l[m.Next(v)], l[m.Head(k)] = 0, uint64(n.below(7)), l[m.Head(k)], uint64(v)
				free[k] = append(free[k], v)
			case 1:
				l[m.Mark(v)] = uint64(n.below(5))
				white = append(white, v)
			default:
				black = append(black, v)
			}
		}
		r := &run{
			m: m, s: cells.New(l...), cycle: 5, sweep: make([]*Machine, 1+n.below(4)),
			takes: make([]*stack.Machine, 2), puts: make([]*stack.Machine, 2),
		}
		for range n.below(200) {
			who := n.below(len(r.sweep) + 2)
			for range 1 + n.below(4) { // as if the others slept
				if who < len(r.sweep) {
					r.marker(t, who)
				} else {
					r.other(who-len(r.sweep), n.below(5), n.below(4) == 0)
				}
			}
		}
		r.finish(t, &n)
		r.all(t, white, black, free)
		if t.Failed() {
			t.FailNow()
		}
	}
}

// all asks what was done when all parts are swept.
func (r *run) all(t *testing.T, white, black []int, free [5][]int) {
	t.Helper()
	told := map[api.Event]int{}
	for _, e := range r.log {
		told[e]++
	}
	for j := range r.m.Parts() {
		if told[swept(j)] != 1 {
			t.Errorf("part %d is swept %d times", j, told[swept(j)])
		}
	}
	for _, v := range white {
		if told[freed(v)] != 1 {
			t.Errorf("node %d is freed %d times", v, told[freed(v)])
		}
	}
	if len(r.log) != r.m.Parts()+len(white) {
		t.Errorf("it tells %v of %d parts, and of %v", r.log, r.m.Parts(), white)
	}
	for _, v := range black {
		if r.s.Load(r.m.State(v)) != 1 || r.s.Load(r.m.Mark(v)) != 5 {
			t.Errorf("node %d, which was marked, is freed", v)
		}
	}
	for k := range 5 {
		want := slices.Clone(free[k])
		for _, v := range white {
			if r.m.Class(v) == k {
				want = append(want, v)
			}
		}
		want = slices.DeleteFunc(want, func(v int) bool { return slices.Contains(r.made, v) })
		got := stack.Walk(r.s.All(), r.m.Head(k), r.m.Next, 99)
		slices.Sort(want)
		slices.Sort(got)
		if !slices.Equal(got, want) {
			t.Errorf("of class %d %v are free, not %v", k, got, want)
		}
		for _, v := range got {
			if r.s.Load(r.m.State(v)) != 0 {
				t.Errorf("node %d is free, and there", v)
			}
		}
	}
	for _, v := range r.made {
		if r.s.Load(r.m.State(v)) != 1 {
			t.Errorf("node %d, which was made, isn't there", v)
		}
	}
}

// P16.1 (2): of all that saw a part one has it, in each order of their steps.
func TestOneHasThePart(t *testing.T) {
	m := chart(t, [5]int{2}, 1)
	for order := range 1 << 10 {
		s := cells.New(full(m, 4, 4)...)
		x := [2]*Machine{New(m, 4), New(m, 4)}
		had := [2]int{}
		for bit := range 10 {
			x[order>>bit&1].Step(s)
		}
		for _, y := range x {
			for !y.Step(s) {
			}
			if y.Part() >= 0 {
				had[y.Part()]++
			}
		}
		if had[0] != 1 || had[1] > 1 || s.Load(m.Done()) != uint64(had[0]+had[1]) || s.Load(m.Sweep()) != pair(4, uint64(had[0]+had[1])) {
			t.Fatalf("order %b: the parts have %v; Done is %d, and Sweep %x", order, had, s.Load(m.Done()), s.Load(m.Sweep()))
		}
	}
}
