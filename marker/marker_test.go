package marker

import (
	"iter"
	"math"
	"slices"
	"testing"

	"dustman/add"
	"dustman/api"
	"dustman/cells"
	"dustman/claim"
	"dustman/layout"
	"dustman/packet"
	"dustman/scan"
	"dustman/seek"
	"dustman/stack"
	"dustman/sweep"
)

const last = math.MaxUint64

// Phases, by their numbers.
const (
	idle = iota
	arming
	settling
	rooting
	marking
	sweeping
)

// chart is a map of so many cells of each class, so many markers, deques of that
// room, pieces of so many slots, and parts of so many nodes.
func chart(t *testing.T, all [5]int, markers, room, chunk, part int) *layout.Map {
	t.Helper()
	m, e := layout.New(layout.Config{Cells: all, Markers: markers, Mutators: 1, Deque: room, Chunk: chunk, Buffer: 1, Roots: 1, Sweep: part})
	if e != 0 {
		t.Fatalf("a map of %v: %v", all, e)
	}
	return m
}

// pair is two numbers as a word; task is that of a node, from a slot on.
func pair(high, low uint64) uint64 { return high<<32 + low }
func task(v, from int) uint64      { return pair(uint64(v), uint64(from)) }

// in is the word of a phase, and its cycle.
func in(cycle uint64, phase int) uint64 { return 8*cycle + uint64(phase) }

// node has a node there in memory, with a header and slots so.
func node(m *layout.Map, l []uint64, v int, header uint64, slots ...uint64) {
	l[m.State(v)], l[m.Header(v)] = 1, header
	for i, w := range slots {
		l[m.Slot(v, i)] = w
	}
}

// tasks has those tasks in a marker's deque in memory.
func tasks(m *layout.Map, l []uint64, i int, tasks ...uint64) {
	l[m.Bottom(i)] = l[m.Top(i)] + uint64(len(tasks))
	for j, w := range tasks {
		l[m.Entry(i, j)] = w
	}
}

// pool has the first packet, with those tasks, in the pool in memory.
func pool(m *layout.Map, l []uint64, tasks ...uint64) {
	l[m.Pool()], l[m.Spare()], l[m.Link(1)], l[m.Many(1)] = 1, l[m.Link(1)], 0, uint64(len(tasks))
	for j, w := range tasks {
		l[m.Task(1, j)] = w
	}
}

// Events, as they are told.
func claimed(v int) api.Event       { return api.Event{Kind: 1, A: v} }
func further(v, from int) api.Event { return api.Event{Kind: 2, A: v, B: from} }
func slot(v, i int) api.Event       { return api.Event{Kind: 3, A: v, B: i} }
func end(v, from int) api.Event     { return api.Event{Kind: 4, A: v, B: from} }
func freed(v int) api.Event         { return api.Event{Kind: 5, A: v} }
func swept(j int) api.Event         { return api.Event{Kind: 6, A: j} }

// state is what a marker tells.
type state struct {
	doing int
	task  uint64
	has   bool
	bag   seek.Bag
	event api.Event
}

// of is what a marker tells now.
func of(x *Marker) state {
	w, has := x.Task()
	return state{x.Doing(), w, has, x.Bag(), x.Event()}
}

// tells asks what a marker tells.
func tells(t *testing.T, x *Marker, want state) {
	t.Helper()
	for range 2 {
		if got := of(x); got != want {
			t.Errorf("it tells %v, not %v", got, want)
		}
	}
}

// is asks that memory has those words.
func is(t *testing.T, s *cells.Store, want []uint64) {
	t.Helper()
	if got := s.All(); !slices.Equal(got, want) {
		t.Errorf("memory is %v, not %v", got, want)
	}
}

// goes does so many steps, each of one access, and with that told behind it.
func goes(t *testing.T, x *Marker, s *cells.Store, draw, steps int, want state) {
	t.Helper()
	for range steps {
		count := s.Count()
		x.Step(s, draw)
		if s.Count() != count+1 {
			t.Errorf("a step did %d accesses", s.Count()-count)
		}
		tells(t, x, want)
	}
}

// stays asks that a marker that there isn't does nothing.
func stays(t *testing.T, x *Marker, s *cells.Store) {
	t.Helper()
	l, count := s.All(), s.Count()
	for draw := range 3 {
		tells(t, x, state{})
		x.Step(s, draw)
	}
	tells(t, x, state{})
	if s.Count() != count || !slices.Equal(s.All(), l) {
		t.Error("Step did something")
	}
}

// put has a phase in memory.
func put(m *layout.Map, s *cells.Store, cycle uint64, phase int) {
	s.Put(m.Phase(), in(cycle, phase))
}

// Looks, and the others, by their numbers.
func TestNumbers(t *testing.T) {
	if l := [5]int{Looks, Seeks, Waits, Scans, Sweeps}; l != [5]int{0, 1, 2, 3, 4} {
		t.Errorf("they are %v", l)
	}
}

// The chapter's examples.
func TestTheExamples(t *testing.T) {
	m := chart(t, [5]int{1}, 1, 2, 1, 1)
	l := m.First()
	s := cells.New(l...)
	x := New(m, 0)
	goes(t, x, s, 0, 20, state{doing: 0})
	is(t, s, l)

	l[m.Phase()] = in(1, marking)
	s = cells.New(l...)
	x = New(m, 0)
	for range 3 {
		goes(t, x, s, 0, 1, state{doing: 1})
		goes(t, x, s, 0, 4, state{doing: 1})
		goes(t, x, s, 0, 1, state{doing: 0})
	}
	is(t, s, l)
}

// P17.1: a new marker did nothing.
func TestNew(t *testing.T) {
	for all := 1; all <= 4; all++ {
		m := chart(t, [5]int{1}, all, 2, 1, 1)
		l := m.First()
		l[m.Phase()] = in(3, rooting)
		for i := range all {
			s := cells.New(l...)
			x := New(m, i)
			tells(t, x, state{})
			if s.Count() != 0 {
				t.Errorf("there were %d accesses", s.Count())
			}
			goes(t, x, s, 0, 1, state{doing: 1})
			is(t, s, l)
		}
	}
}

// cycles are numbers of cycles.
func cycles() []uint64 {
	return []uint64{0, 1, 2, 7, math.MaxInt32, 1 << 31, math.MaxUint32, 1 << 32, 1<<32 + 7, 1 << 58, 1<<60 - 1, 1 << 60, 1<<61 - 1}
}

// P17.1, Looks: each phase, and those that are none.
func TestLooks(t *testing.T) {
	m := chart(t, [5]int{3}, 2, 2, 1, 1)
	for _, cycle := range cycles() {
		for phase := range 8 {
			l := m.First()
			l[m.Phase()] = in(cycle, phase)
			s := cells.New(l...)
			x := New(m, 1)
			switch phase {
			case rooting, marking:
				goes(t, x, s, 0, 1, state{doing: 1})
			case sweeping:
				goes(t, x, s, 0, 1, state{doing: 4})
			default:
				goes(t, x, s, 0, 3, state{doing: 0})
				s.Put(m.Phase(), in(cycle, marking)) // it looks each time
				goes(t, x, s, 0, 1, state{doing: 1})
				l[m.Phase()] = in(cycle, marking)
			}
			is(t, s, l)
		}
	}
}

// P17.1, Waits: each phase, and those that are none.
func TestWaits(t *testing.T) {
	m := chart(t, [5]int{3}, 1, 2, 1, 1)
	w := task(2, 0)
	for _, cycle := range cycles() {
		for phase := range 8 {
			l := m.First()
			l[m.Phase()] = in(4, marking)
			tasks(m, l, 0, 9, w)
			s := cells.New(l...)
			x := New(m, 0)
			goes(t, x, s, 0, 4, state{doing: 1})
			goes(t, x, s, 0, 1, state{doing: 2, task: w, has: true})
			s.Put(m.Phase(), in(cycle, phase))
			l[m.Phase()], l[m.Bottom(0)] = in(cycle, phase), 1
			if phase == rooting || phase == marking {
				goes(t, x, s, 0, 1, state{doing: 3, task: w, has: true})
			} else {
				goes(t, x, s, 0, 3, state{doing: 2, task: w, has: true})
				s.Put(m.Phase(), in(cycle, rooting)) // it looks each time
				goes(t, x, s, 0, 1, state{doing: 3, task: w, has: true})
				l[m.Phase()] = in(cycle, rooting)
			}
			is(t, s, l)
		}
	}
}

// P17.1, Seeks: a task of its own, with what is told behind each step; each marker
// has a deque of its own.
func TestSeeksAndFinds(t *testing.T) {
	for i := range 3 {
		m := chart(t, [5]int{3}, 3, 2, 1, 1)
		l := m.First()
		l[m.Phase()] = in(4, rooting)
		for j := range 3 {
			tasks(m, l, j, task(3, 9), task(j+1, 5))
		}
		s := cells.New(l...)
		x := New(m, i)
		goes(t, x, s, 1, 1, state{doing: 1})
		is(t, s, l)
		goes(t, x, s, 1, 1, state{doing: 1})
		is(t, s, l)
		goes(t, x, s, 1, 1, state{doing: 1})
		l[m.Bottom(i)] = 1
		is(t, s, l)
		goes(t, x, s, 1, 1, state{doing: 1})
		goes(t, x, s, 1, 1, state{doing: 2, task: task(i+1, 5), has: true})
		is(t, s, l)
	}
}

// P17.1, Seeks: a task whose word is 0 is one, too; it is that of no node.
func TestTaskOfNought(t *testing.T) {
	m := chart(t, [5]int{3}, 1, 2, 1, 1)
	l := m.First()
	l[m.Phase()], l[m.Work()] = in(4, rooting), 1
	tasks(m, l, 0, 9, 0)
	s := cells.New(l...)
	x := New(m, 0)
	goes(t, x, s, 0, 4, state{doing: 1})
	goes(t, x, s, 0, 1, state{doing: 2, has: true})
	goes(t, x, s, 0, 2, state{doing: 3, has: true})
	goes(t, x, s, 0, 1, state{doing: 0, event: end(0, 0)})
	goes(t, x, s, 0, 1, state{doing: 1})
	l[m.Bottom(0)], l[m.Work()] = 1, 0
	is(t, s, l)
}

// does does steps, till that one is behind which it does so.
func does(t *testing.T, x *Marker, s *cells.Store, doing int) {
	t.Helper()
	for steps := 0; x.Doing() != doing; steps++ {
		if steps > 1000 {
			t.Fatalf("it does %d, and never %d", x.Doing(), doing)
		}
		x.Step(s, 0)
	}
}

// P17.1: the bag is that of a seek that is finished, from one to the next, and no
// other one while it seeks.
func TestBag(t *testing.T) {
	m := chart(t, [5]int{4}, 1, 2, 1, 1)
	l := m.First()
	l[m.Phase()] = in(4, rooting)
	pool(m, l, task(1, 0), task(2, 0), task(3, 0))
	s := cells.New(l...)
	x := New(m, 0)
	goes(t, x, s, 0, 1+4+3+1, state{doing: 1}) // the packet is taken
	for at := 1; at <= 3; at++ {
		w, b := task(at, 0), seek.Bag{Packet: 1, At: at, Many: 3}
		goes(t, x, s, 0, 1, state{doing: 2, task: w, has: true, bag: b})
		goes(t, x, s, 0, 2, state{doing: 3, task: w, has: true, bag: b})
		goes(t, x, s, 0, 1, state{doing: 0, bag: b, event: end(at, 0)})
		goes(t, x, s, 0, 1+4, state{doing: 1, bag: b})
	}
	b := seek.Bag{Packet: 1, At: 3, Many: 3}
	goes(t, x, s, 0, 3, state{doing: 1, bag: b}) // the packet is put back
	goes(t, x, s, 0, 1, state{doing: 0})
	goes(t, x, s, 0, 5, state{doing: 1})
	goes(t, x, s, 0, 1, state{doing: 0})
	l[m.Pool()], l[m.Link(1)], l[m.Spare()], l[m.Work()] = pair(1, 0), 2, pair(1, 1), last-2
	is(t, s, l)
}

// P17.1: its own tasks are ahead of the bag's, which it keeps meanwhile, and
// while it sweeps.
func TestBagIsKept(t *testing.T) {
	m := chart(t, [5]int{4}, 1, 2, 1, 4)
	l := m.First()
	l[m.Phase()] = in(4, rooting)
	pool(m, l, task(1, 0), task(2, 0))
	s := cells.New(l...)
	x := New(m, 0)
	does(t, x, s, Waits)
	does(t, x, s, Looks)
	b := seek.Bag{Packet: 1, At: 1, Many: 2}
	put(m, s, 4, sweeping)
	goes(t, x, s, 0, 1, state{doing: 4, bag: b})
	goes(t, x, s, 0, 1, state{doing: 0, bag: b}) // Sweep is another cycle's
	put(m, s, 4, idle)
	goes(t, x, s, 0, 2, state{doing: 0, bag: b})
	put(m, s, 5, rooting)
	y := add.New(m, 0, task(3, 0))
	for !y.Step(s) {
	}
	does(t, x, s, Waits)
	tells(t, x, state{doing: 2, task: task(3, 0), has: true, bag: b})
	does(t, x, s, Looks)
	does(t, x, s, Waits)
	b.At = 2
	tells(t, x, state{doing: 2, task: task(2, 0), has: true, bag: b})
}

// P17.1: the draw of the step that looks tells from whom it steals, and no other
// step's does.
func TestDraw(t *testing.T) {
	for all := 2; all <= 4; all++ {
		m := chart(t, [5]int{3}, all, 3, 1, 1)
		for i := range all {
			for _, draw := range []int{math.MinInt, -7, -2, -1, 0, 1, 2, 3, 4, 5, 6, 99, math.MaxInt} {
				l := m.First()
				l[m.Phase()] = in(4, marking)
				for j := range all {
					if j != i {
						tasks(m, l, j, task(j+1, 0), task(j+1, 1))
					}
				}
				s := cells.New(l...)
				x := New(m, i)
				v := seek.Victim(all, i, draw)
				goes(t, x, s, draw, 1, state{doing: 1})
				for other := range 4 + 1 + 3 {
					goes(t, x, s, draw+other, 1, state{doing: 1})
				}
				goes(t, x, s, draw+1, 1, state{doing: 2, task: task(v+1, 0), has: true})
				l[m.Top(v)] = 1
				is(t, s, l)
			}
		}
	}
}

// P17.1: each time it looks it draws anew.
func TestEachDraw(t *testing.T) {
	m := chart(t, [5]int{3}, 3, 2, 1, 1)
	l := m.First()
	l[m.Phase()] = in(4, marking)
	tasks(m, l, 2, task(3, 0))
	s := cells.New(l...)
	x := New(m, 0)
	for range 3 {
		goes(t, x, s, 1, 1+4+1+1, state{doing: 1})
		goes(t, x, s, 1, 1, state{doing: 0})
	}
	goes(t, x, s, 2, 1+4+1+3, state{doing: 1})
	goes(t, x, s, 2, 1, state{doing: 2, task: task(3, 0), has: true})
}

// begun is a marker that begins to scan a task in a cycle.
func begun(t *testing.T, m *layout.Map, s *cells.Store, i int, w, cycle uint64) *Marker {
	t.Helper()
	put(m, s, cycle, rooting)
	y := add.New(m, i, w)
	for !y.Step(s) {
	}
	x := New(m, i)
	goes(t, x, s, i, 1+3, state{doing: 1})
	x.Step(s, i)
	if x.Doing() == Seeks { // it was the only one
		goes(t, x, s, i, 1, state{doing: 1})
		x.Step(s, i)
	}
	tells(t, x, state{doing: 2, task: w, has: true})
	goes(t, x, s, i, 1, state{doing: 3, task: w, has: true})
	return x
}

// P17.1, Scans; P17.2: what each step does, and what is told of it.
func TestScans(t *testing.T) {
	for i := range 2 {
		m := chart(t, [5]int{2, 1}, 2, 2, 1, 4)
		l := m.First()
		node(m, l, 3, 2, 1, 2)
		l[m.Work()] = 1
		s := cells.New(l...)
		w := task(3, 0)
		x := begun(t, m, s, i, w, 6)
		l = s.All()
		scans := func(e api.Event) state { return state{doing: 3, task: w, has: true, event: e} }
		goes(t, x, s, 0, 1, scans(api.Event{})) // the header
		is(t, s, l)
		goes(t, x, s, 0, 1, scans(further(3, 1)))
		l[m.Work()] = 2
		is(t, s, l)
		goes(t, x, s, 0, 4, scans(api.Event{}))
		l[m.Entry(i, 1)], l[m.Bottom(i)] = task(3, 1), 2
		is(t, s, l)
		goes(t, x, s, 0, 1, scans(slot(3, 0)))
		is(t, s, l)
		goes(t, x, s, 0, 2, scans(api.Event{}))
		goes(t, x, s, 0, 1, scans(claimed(1)))
		l[m.Mark(1)], l[m.Work()] = 6, 3
		is(t, s, l)
		goes(t, x, s, 0, 4, scans(api.Event{}))
		l[m.Entry(i, 0)], l[m.Bottom(i)] = task(1, 0), 3
		is(t, s, l)
		goes(t, x, s, 0, 1, state{doing: 0, event: end(3, 0)})
		l[m.Work()] = 2
		is(t, s, l)
		goes(t, x, s, 0, 1+3, state{doing: 1})
		goes(t, x, s, 0, 1, state{doing: 2, task: task(1, 0), has: true})
	}
}

// P17.1, Waits: the cycle is that of the step by which it scans, whatever it was
// when it looked.
func TestCycleOfAScan(t *testing.T) {
	m := chart(t, [5]int{2, 1}, 1, 4, 4, 4)
	for _, cycle := range cycles()[1:] {
		l := m.First()
		node(m, l, 3, 2, 1, 2)
		l[m.Phase()], l[m.Mark(1)], l[m.Mark(2)], l[m.Mark(3)] = in(6, marking), cycle-1, cycle, cycle
		tasks(m, l, 0, 9, task(3, 0))
		s := cells.New(l...)
		x := New(m, 0)
		does(t, x, s, Waits)
		put(m, s, cycle, arming)
		goes(t, x, s, 0, 1, state{doing: 2, task: task(3, 0), has: true})
		put(m, s, cycle, marking)
		does(t, x, s, Scans)
		put(m, s, cycle+9, marking) // what is begun goes on
		does(t, x, s, Looks)
		if a, b := s.Load(m.Mark(1)), s.Load(m.Mark(2)); a != cycle || b != cycle {
			t.Errorf("marks of cycle %d are %d, %d", cycle, a, b)
		}
		if w := s.Load(m.Entry(0, 1)); w != task(1, 0) {
			t.Errorf("the task is %x", w)
		}
	}
}

// P17.1: what is begun goes on to its end, whatever the phase is.
func TestWhatIsBegunGoesOn(t *testing.T) {
	for phase := range 8 {
		m := chart(t, [5]int{2, 1}, 1, 2, 4, 4)
		l := m.First()
		node(m, l, 3, 2, 0, 0)
		tasks(m, l, 0, 9, task(3, 0))
		l[m.Phase()], l[m.Sweep()], l[m.Done()] = in(6, marking), pair(9, 0), 3
		s := cells.New(l...)
		x := New(m, 0)
		goes(t, x, s, 0, 1, state{doing: 1})
		put(m, s, 9, phase)
		goes(t, x, s, 0, 3, state{doing: 1})
		goes(t, x, s, 0, 1, state{doing: 2, task: task(3, 0), has: true})
		put(m, s, 6, rooting)
		goes(t, x, s, 0, 1, state{doing: 3, task: task(3, 0), has: true})
		put(m, s, 9, phase)
		goes(t, x, s, 0, 1, state{doing: 3, task: task(3, 0), has: true})
		goes(t, x, s, 0, 1, state{doing: 3, task: task(3, 0), has: true, event: slot(3, 0)})
		goes(t, x, s, 0, 1, state{doing: 3, task: task(3, 0), has: true, event: slot(3, 1)})
		goes(t, x, s, 0, 1, state{doing: 0, event: end(3, 0)})
		put(m, s, 9, sweeping)
		goes(t, x, s, 0, 1, state{doing: 4})
		put(m, s, 10, phase)
		goes(t, x, s, 0, 2+2, state{doing: 4})
		goes(t, x, s, 0, 1+1, state{doing: 4}) // node 3 is there
		goes(t, x, s, 0, 1, state{doing: 4, event: freed(3)})
		goes(t, x, s, 0, 3, state{doing: 4})
		goes(t, x, s, 0, 1, state{doing: 0, event: swept(0)})
		if w := s.Load(m.Done()); w != 4 {
			t.Errorf("Done is %d", w)
		}
	}
}

// P17.1, Sweeps; P17.2: what each step does, and what is told of it; part by part,
// till there is none.
func TestSweeps(t *testing.T) {
	m := chart(t, [5]int{4}, 2, 2, 1, 3)
	l := m.First()
	for v := 1; v <= 4; v++ {
		node(m, l, v, 1)
		l[m.Mark(v)] = 6
	}
	l[m.Mark(2)], l[m.Mark(4)], l[m.Head(0)] = 5, 5, 0
	l[m.Phase()], l[m.Sweep()] = in(6, sweeping), pair(6, 0)
	s := cells.New(l...)
	x := New(m, 1)
	goes(t, x, s, 0, 1, state{doing: 4})
	is(t, s, l)
	goes(t, x, s, 0, 2, state{doing: 4})
	l[m.Sweep()] = pair(6, 1)
	is(t, s, l)
	goes(t, x, s, 0, 2+2, state{doing: 4})
	goes(t, x, s, 0, 1, state{doing: 4, event: freed(2)})
	l[m.State(2)] = 0
	is(t, s, l)
	goes(t, x, s, 0, 3, state{doing: 4})
	l[m.Next(2)], l[m.Head(0)] = 0, pair(1, 2)
	is(t, s, l)
	goes(t, x, s, 0, 2, state{doing: 4})
	goes(t, x, s, 0, 1, state{doing: 0, event: swept(0)})
	l[m.Done()] = 1
	is(t, s, l)
	goes(t, x, s, 0, 1+2+2, state{doing: 4})
	goes(t, x, s, 0, 1, state{doing: 4, event: freed(4)})
	goes(t, x, s, 0, 3, state{doing: 4})
	goes(t, x, s, 0, 1, state{doing: 0, event: swept(1)})
	l[m.Sweep()], l[m.Done()], l[m.State(4)], l[m.Next(4)], l[m.Head(0)] = pair(6, 2), 2, 0, 2, pair(2, 4)
	is(t, s, l)
	for range 3 { // there is no part left
		goes(t, x, s, 0, 1, state{doing: 4})
		goes(t, x, s, 0, 1, state{doing: 0})
	}
	is(t, s, l)
}

// P17.1, Looks: a sweep is of the cycle of the step that looked.
func TestCycleOfASweep(t *testing.T) {
	m := chart(t, [5]int{3}, 1, 2, 1, 1)
	for _, cycle := range cycles()[1:] {
		l := m.First()
		for v := 1; v <= 3; v++ {
			node(m, l, v, 1)
		}
		l[m.Phase()], l[m.Mark(1)], l[m.Mark(2)] = in(cycle, sweeping), cycle, cycle-1
		l[m.Sweep()], l[m.Done()] = pair(cycle%(1<<32), 0), 7
		s := cells.New(l...)
		x := New(m, 0)
		goes(t, x, s, 0, 1, state{doing: 4})
		put(m, s, cycle+1, idle)
		goes(t, x, s, 0, 2+2, state{doing: 4})
		goes(t, x, s, 0, 1, state{doing: 0, event: swept(0)})
		put(m, s, cycle, sweeping)
		goes(t, x, s, 0, 1+2+2, state{doing: 4})
		goes(t, x, s, 0, 1, state{doing: 4, event: freed(2)})
		does(t, x, s, Looks)
		put(m, s, cycle+1, sweeping) // Sweep is not of that one
		goes(t, x, s, 0, 1, state{doing: 4})
		goes(t, x, s, 0, 1, state{doing: 0})
		put(m, s, cycle, sweeping)
		goes(t, x, s, 0, 1, state{doing: 4})
		s.Put(m.Sweep(), pair((cycle+1)%(1<<32), 2)) // nor is it any more of that
		goes(t, x, s, 0, 1, state{doing: 0})
		if w := s.Load(m.Done()); w != 9 {
			t.Errorf("Done is %d", w)
		}
	}
}

// P17.2
func TestNilMarker(t *testing.T) {
	m := chart(t, [5]int{1}, 1, 2, 1, 1)
	l := m.First()
	l[m.Phase()] = in(4, marking)
	s := cells.New(l...)
	var x *Marker
	stays(t, x, s)
	stays(t, x, nil)
}

// P17.2
func TestNilMap(t *testing.T) {
	s := cells.New(in(1, marking), in(1, marking))
	for _, i := range []int{math.MinInt, -1, 0, 1, math.MaxInt} {
		x := New(nil, i)
		stays(t, x, s)
		stays(t, x, nil)
	}
}

// P17.2
func TestNoMarker(t *testing.T) {
	for all := 1; all <= 4; all++ {
		m := chart(t, [5]int{3}, all, 2, 1, 1)
		for phase := range 8 {
			l := m.First()
			l[m.Phase()], l[m.Sweep()] = in(4, phase), pair(4, 0)
			pool(m, l, 71)
			tasks(m, l, 0, 91)
			s := cells.New(l...)
			for _, i := range []int{math.MinInt, -1 << 32, -1, all, all + 1, 99, 1 << 32, math.MaxInt} {
				x := New(m, i)
				stays(t, x, s)
				stays(t, x, nil)
			}
		}
	}
}

// In nil memory, and in one without the words, each step ends.
func TestMemoryWithoutWords(t *testing.T) {
	m := chart(t, [5]int{3}, 2, 2, 1, 1)
	for _, s := range []*cells.Store{nil, cells.New()} {
		x := New(m, 1)
		for draw := range 9 {
			x.Step(s, draw)
			tells(t, x, state{})
		}
	}
	s := cells.New(in(4, marking)) // there is no other word than Phase
	x := New(m, 1)
	for range 3 {
		goes(t, x, s, 0, 1+4+1+1, state{doing: 1})
		goes(t, x, s, 0, 1, state{doing: 0})
	}
	put(m, s, 4, sweeping)
	goes(t, x, s, 0, 1, state{doing: 4})
	goes(t, x, s, 0, 1, state{doing: 0})
	put(m, s, 0, sweeping) // a Sweep of 0 is that of cycle 0
	goes(t, x, s, 0, 1+1, state{doing: 4})
	goes(t, x, s, 0, 1, state{doing: 0})
	is(t, s, []uint64{in(0, sweeping)})
}

// P17.2: each marker is told of its own steps alone.
func TestEachMarkerIsItsOwn(t *testing.T) {
	m := chart(t, [5]int{2, 1}, 2, 4, 1, 1)
	l := m.First()
	node(m, l, 3, 2, 1, 2)
	l[m.Phase()], l[m.Work()] = in(6, marking), 2
	tasks(m, l, 0, 9, task(3, 1))
	tasks(m, l, 1, 9, task(1, 0))
	s := cells.New(l...)
	x, y := New(m, 0), New(m, 1)
	goes(t, x, s, 0, 1+3, state{doing: 1})
	tells(t, y, state{})
	goes(t, y, s, 0, 1+3, state{doing: 1})
	goes(t, x, s, 0, 1, state{doing: 2, task: task(3, 1), has: true})
	tells(t, y, state{doing: 1})
	goes(t, y, s, 0, 1, state{doing: 2, task: task(1, 0), has: true})
	goes(t, x, s, 0, 2, state{doing: 3, task: task(3, 1), has: true})
	tells(t, y, state{doing: 2, task: task(1, 0), has: true})
	goes(t, y, s, 0, 2, state{doing: 3, task: task(1, 0), has: true})
	goes(t, x, s, 0, 1, state{doing: 3, task: task(3, 1), has: true, event: slot(3, 1)})
	goes(t, y, s, 0, 1, state{doing: 0, event: end(1, 0)})
	tells(t, x, state{doing: 3, task: task(3, 1), has: true, event: slot(3, 1)})
	goes(t, x, s, 0, 2, state{doing: 3, task: task(3, 1), has: true})
	tells(t, y, state{doing: 0, event: end(1, 0)})
	goes(t, y, s, 0, 1, state{doing: 1})
	goes(t, x, s, 0, 1, state{doing: 3, task: task(3, 1), has: true, event: claimed(2)})
	tells(t, y, state{doing: 1})
}

// series tells the same numbers each time, each from 0 on and below an end.
type series uint64

func (s *series) below(end int) int {
	*s = *s*6364136223846793005 + 1442695040888963407
	return int(uint64(*s)>>33) % end
}

// saying is a marker as the chapter's words have it, by the layers below.
type saying struct {
	m    *layout.Map
	s    *cells.Store
	i    int
	draw int // that of the next step
	is   state
}

// phase is a look at the phase.
func (x *saying) phase() (uint64, int) {
	w := x.s.Load(x.m.Phase())
	return w / 8, int(w % 8)
}

// does is steps of a machine, of which none but the last one is told to be so;
// false: no more steps are asked for.
func (x *saying) does(step func(*cells.Store) bool, event func() api.Event, yield func(state) bool) bool {
	for {
		finished := step(x.s)
		x.is.event = event()
		if finished {
			return true
		}
		if !yield(x.is) {
			return false
		}
	}
}

// round is the steps from one by which it looks to one behind which it looks
// again; false: no more steps are asked for.
func (x *saying) round(yield func(state) bool) bool {
	x.is.doing, x.is.task, x.is.has, x.is.event = 0, 0, false, api.Event{}
	cycle, phase := x.phase()
	switch phase {
	case 3, 4:
		y := seek.New(x.m, x.i, x.is.bag, x.draw)
		x.is.doing = 1
		none := func() api.Event { return api.Event{} }
		if !yield(x.is) || !x.does(y.Step, none, yield) {
			return false
		}
		x.is.bag = y.Bag()
		if x.is.task, x.is.has = y.Task(); x.is.has && !x.scans(yield) {
			return false
		}
	case 5:
		y := sweep.New(x.m, cycle)
		x.is.doing = 4
		if !yield(x.is) || !x.does(y.Step, y.Event, yield) {
			return false
		}
	}
	x.is.doing, x.is.task, x.is.has = 0, 0, false
	return yield(x.is)
}

// scans is the steps from that behind which it has a task on, but for the last
// one's telling; false: no more steps are asked for.
func (x *saying) scans(yield func(state) bool) bool {
	for {
		x.is.doing = 2
		if !yield(x.is) {
			return false
		}
		cycle, phase := x.phase()
		if phase == 3 || phase == 4 {
			y := scan.New(x.m, x.i, x.is.task, cycle)
			x.is.doing = 3
			return yield(x.is) && x.does(y.Step, y.Event, yield)
		}
	}
}

// steps is its steps, one by one, each ahead of a yield that tells what is told
// behind it.
func (x *saying) steps() iter.Seq[state] {
	return func(yield func(state) bool) {
		for x.round(yield) {
		}
	}
}

// P17.1, P17.2: against the chapter's words, whatever stands in memory, and
// whatever others do between the steps.
func TestAgainstTheWords(t *testing.T) {
	n := series(17)
	few := []uint64{0, 0, 1, 1, 2, 3, 4, 5, 6, 7, 9, pair(4, 0), pair(5, 1), pair(1, 1), pair(3, 0), math.MaxUint32, 1<<63 - 1, 1 << 63, last}
	phases := []int{0, 1, 2, 3, 3, 4, 4, 4, 4, 5, 5, 5, 6, 7}
	kinds, doings := [15]int{}, [5]int{}
	for range 4000 {
		m := chart(t, [5]int{2, 1, 1}, 1+n.below(3), 2+n.below(3), 1+n.below(3), 1+n.below(3))
		i := n.below(m.Config().Markers)
		v := 1 + n.below(m.Nodes())
		places := []int{
			m.Work(), m.Sweep(), m.Done(), m.Pool(), m.Spare(), m.Top(i), m.Bottom(i), m.Entry(i, 0), m.Head(0), m.Link(1), m.Many(1),
			m.Header(v), m.State(v), m.Mark(v), m.Next(v), m.Slot(v, 0), m.Mark(1), m.Mark(2), m.Mark(3), m.Mark(4), m.Len() - 1, -1,
		}
		l := m.First()
		for v := 1; v <= m.Nodes(); v++ {
			node(m, l, v, uint64(n.below(5)), uint64(n.below(6)))
		}
		pool(m, l, task(v, n.below(3)), task(1+n.below(5), 0))
		tasks(m, l, n.below(m.Config().Markers), task(1+n.below(5), 0), task(v, 0))
		l[m.Sweep()] = pair(uint64(4+n.below(2)), 0)
		for p := range l {
			if n.below(9) == 0 {
				l[p] = few[n.below(len(few))]
			}
		}
		if n.below(8) == 0 {
			l = l[:n.below(len(l))]
		}
		a, b := cells.New(l...), cells.New(l...)
		x := New(m, i)
		want := &saying{m: m, s: b, i: i}
		next, stop := iter.Pull(want.steps())
		for step := range 120 {
			at, word := -1, uint64(0)
			switch n.below(12) {
			case 0:
				at, word = places[n.below(len(places))], few[n.below(len(few))]
			case 1, 2:
				at, word = m.Phase(), in(uint64(4+n.below(2)), phases[n.below(len(phases))])
			}
			a.Put(at, word)
			b.Put(at, word)
			want.draw = n.below(9) - 4
			x.Step(a, want.draw)
			is, _ := next()
			if got := of(x); got != is {
				t.Fatalf("marker %d, step %d: it is %v, not %v", i, step, got, is)
			}
			if !slices.Equal(a.All(), b.All()) || a.Count() != b.Count() {
				t.Fatalf("marker %d, step %d: memory is %v, not %v; %d accesses, not %d", i, step, a.All(), b.All(), a.Count(), b.Count())
			}
			kinds[is.event.Kind]++
			doings[is.doing]++
		}
		stop()
	}
	for kind := 1; kind <= 6; kind++ {
		if kinds[kind] < 500 {
			t.Errorf("there were %d of kind %d alone", kinds[kind], kind)
		}
	}
	for doing, many := range doings {
		if many < 5000 {
			t.Errorf("it did %d in %d steps alone", doing, many)
		}
	}
}

// run is markers, and one that tells the phases, marks roots, and makes nodes
// between cycles.
type run struct {
	m       *layout.Map
	s       *cells.Store
	n       *series
	cycle   uint64
	markers []*Marker
	log     []api.Event // of this cycle
}

// begin has nodes made of some cells, with whatever in their slots, and marked.
func (r *run) begin() {
	for range r.n.below(r.m.Nodes() + 1) {
		y := stack.Pop(r.m.Head(r.n.below(5)), r.m.Next)
		for !y.Step(r.s) {
		}
		if v := y.Item(); v != 0 {
			r.s.Put(r.m.State(v), 1)
			r.s.Put(r.m.Mark(v), r.cycle)
		}
	}
	for v := 1; v <= r.m.Nodes(); v++ {
		r.s.Put(r.m.Header(v), uint64(r.n.below(r.m.Room(v)+1)))
		for i := range r.m.Room(v) {
			w := r.n.below(r.m.Nodes() + 1)
			if r.s.Load(r.m.State(max(w, 1))) == 0 {
				w = 0
			}
			r.s.Put(r.m.Slot(v, i), uint64(w))
		}
	}
}

// root marks a node as a mutator does, and puts its task into the pool.
func (r *run) root(t *testing.T, v int) {
	t.Helper()
	y := claim.New(r.m, v, r.cycle)
	for !y.Step(r.s) {
	}
	if !y.Won() {
		return
	}
	r.log = append(r.log, claimed(v))
	z := packet.Put(r.m, task(v, 0))
	for steps := 0; !z.Step(r.s); steps++ {
		if steps > 1000 {
			t.Fatal("there is no spare packet")
		}
	}
}

// some has some marker do some steps, as if the others slept.
func (r *run) some(t *testing.T) {
	t.Helper()
	x := r.markers[r.n.below(len(r.markers))]
	for range 1 + r.n.below(6) {
		x.Step(r.s, r.n.below(99)-50)
		if e := x.Event(); e != (api.Event{}) {
			r.log = append(r.log, e)
		}
		if work, all := r.s.Load(r.m.Work()), r.tasks(); work < uint64(all) {
			t.Fatalf("Work is %d, with %d tasks", work, all)
		}
	}
}

// tasks is how many there are.
func (r *run) tasks() int {
	all := len(packet.Held(r.m, r.s.All()))
	for i, x := range r.markers {
		if _, has := x.Task(); has {
			all++
		}
		if b := x.Bag(); b.Packet != 0 {
			all += max(b.Many-b.At, 0)
		}
		all += max(int(int64(r.s.Load(r.m.Bottom(i))-r.s.Load(r.m.Top(i)))), 0)
	}
	return all
}

// till has markers do steps till that word is so.
func (r *run) till(t *testing.T, at int, word uint64) {
	t.Helper()
	for steps := 0; r.s.Load(at) != word; steps++ {
		if steps > 50000 {
			t.Fatalf("the word at %d is %d, and never %d", at, r.s.Load(at), word)
		}
		r.some(t)
	}
}

// reach is all nodes that can be come to from those.
func (r *run) reach(l ...int) []int {
	for at := 0; at < len(l); at++ {
		for i := range int(r.s.Load(r.m.Header(l[at]))) {
			if w := int(r.s.Load(r.m.Slot(l[at], i))); w != 0 && !slices.Contains(l, w) {
				l = append(l, w)
			}
		}
	}
	slices.Sort(l)
	return slices.Compact(l)
}

// turn is a cycle.
func (r *run) turn(t *testing.T) {
	t.Helper()
	r.begin()
	r.cycle++
	r.log = nil
	for phase := arming; phase <= settling; phase++ {
		put(r.m, r.s, r.cycle, phase)
		for range r.n.below(9) {
			r.some(t)
		}
	}
	put(r.m, r.s, r.cycle, rooting)
	roots := []int{r.m.Common()}
	if v := 1 + r.n.below(r.m.Nodes()); r.s.Load(r.m.State(v)) == 1 {
		roots = append(roots, v)
	}
	for _, v := range roots {
		r.root(t, v)
		for range r.n.below(30) {
			r.some(t)
		}
	}
	put(r.m, r.s, r.cycle, marking)
	r.till(t, r.m.Work(), 0)
	if all := r.tasks(); all != 0 {
		t.Errorf("there are %d tasks left", all)
	}
	there := []int{}
	for v := 1; v <= r.m.Nodes(); v++ {
		if r.s.Load(r.m.State(v)) == 1 {
			there = append(there, v)
		}
	}
	r.s.Put(r.m.Sweep(), pair(r.cycle, 0))
	r.s.Put(r.m.Done(), 0)
	put(r.m, r.s, r.cycle, sweeping)
	r.till(t, r.m.Done(), uint64(r.m.Parts()))
	put(r.m, r.s, r.cycle, idle)
	r.all(t, there, r.reach(roots...))
	for range r.n.below(9) {
		r.some(t)
	}
}

// all asks what was done in a cycle: of those that were there, those that can be
// come to are marked once, looked at, and kept, and the others freed.
func (r *run) all(t *testing.T, there, reached []int) {
	t.Helper()
	told := map[api.Event]int{}
	for _, e := range r.log {
		told[e]++
		if told[e] > 1 {
			t.Errorf("%v is told twice", e)
		}
	}
	slots := 0
	for v := 1; v <= r.m.Nodes(); v++ {
		was, kept := slices.Contains(there, v), slices.Contains(reached, v)
		if (told[claimed(v)] == 1) != kept || (told[freed(v)] == 1) != (was && !kept) {
			t.Errorf("node %d, which %v has, is marked %d times, and freed %d times", v, reached, told[claimed(v)], told[freed(v)])
		}
		if (r.s.Load(r.m.State(v)) == 1) != kept {
			t.Errorf("node %d has state %d", v, r.s.Load(r.m.State(v)))
		}
		if kept {
			n := int(r.s.Load(r.m.Header(v)))
			slots += n
			for i := range n {
				if told[slot(v, i)] != 1 {
					t.Errorf("slot %d of node %d is looked at %d times", i, v, told[slot(v, i)])
				}
			}
		}
	}
	for j := range r.m.Parts() {
		if told[swept(j)] != 1 {
			t.Errorf("part %d is swept %d times", j, told[swept(j)])
		}
	}
	kinds := [15]int{}
	for _, e := range r.log {
		kinds[e.Kind]++
	}
	if kinds[api.EvSlot] != slots || kinds[api.EvEnd] != kinds[api.EvRange]+kinds[api.EvClaim] {
		t.Errorf("%d slots, not %d; %d tasks ended, of %d and %d", kinds[api.EvSlot], slots, kinds[api.EvEnd], kinds[api.EvRange], kinds[api.EvClaim])
	}
}

// P17.1, and what M2, M3 and M4 say of markers: in whatever order steps come, all
// that can be come to is marked, once, and all else is swept, cycle by cycle.
func TestCyclesInSomeOrders(t *testing.T) {
	n := series(171)
	for range 250 {
		markers := 1 + n.below(4)
		m := chart(t, [5]int{n.below(4), n.below(4), n.below(3), n.below(3), 1 + n.below(2)}, markers, 2+n.below(3), 1+n.below(5), 1+n.below(6))
		r := &run{m: m, s: cells.New(m.First()...), n: &n}
		for i := range markers {
			r.markers = append(r.markers, New(m, i))
		}
		for range 4 {
			r.turn(t)
			if t.Failed() {
				t.FailNow()
			}
		}
	}
}
