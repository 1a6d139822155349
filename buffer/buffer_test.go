package buffer

import (
	"iter"
	"math"
	"slices"
	"testing"

	"dustman/api"
	"dustman/cells"
	"dustman/claim"
	"dustman/layout"
	"dustman/packet"
)

const last = math.MaxUint64

// chart is a map of so many nodes of a slot each, and of buffers of that room: it
// has three more packets than twice as many.
func chart(t *testing.T, nodes, room int) *layout.Map {
	t.Helper()
	m, e := layout.New(layout.Config{Cells: [5]int{nodes}, Markers: 1, Mutators: 1, Deque: 2, Chunk: 1, Buffer: room, Roots: 1, Sweep: 1})
	if e != 0 || m.Packets() != 2*nodes+3 {
		t.Fatalf("a map of %d nodes: %v, %d packets", nodes, e, m.Packets())
	}
	return m
}

// task is that of a node, from its first slot on.
func task(v int) uint64 { return uint64(v) << 32 }

// tasks is those of nodes.
func tasks(nodes ...int) []uint64 {
	var l []uint64
	for _, v := range nodes {
		l = append(l, task(v))
	}
	return l
}

// claimed is the event of a node that was marked.
func claimed(v int) api.Event { return api.Event{Kind: 1, A: v} }

// quiet is so many steps of which nothing is told.
func quiet(n int) []api.Event { return make([]api.Event, n) }

// is asks that memory has those words.
func is(t *testing.T, s *cells.Store, want []uint64) {
	t.Helper()
	if got := s.All(); !slices.Equal(got, want) {
		t.Errorf("memory is %v, not %v", got, want)
	}
}

// has asks that a buffer has the tasks of those nodes.
func has(t *testing.T, b *Buffer, nodes ...int) {
	t.Helper()
	if got, want := b.Tasks(), tasks(nodes...); !slices.Equal(got, want) {
		t.Errorf("its tasks are %v, not %v", got, want)
	}
}

// holds asks that the pool has the tasks of those nodes.
func holds(t *testing.T, m *layout.Map, s *cells.Store, nodes ...int) {
	t.Helper()
	if got, want := packet.Held(m, s.All()), tasks(nodes...); !slices.Equal(got, want) {
		t.Errorf("Held is %v, not %v", got, want)
	}
}

// goes does steps, of which none is the last one, and which tell those events.
func goes(t *testing.T, x *Machine, s *cells.Store, want ...api.Event) {
	t.Helper()
	for i, e := range want {
		count := s.Count()
		if x.Step(s) {
			t.Errorf("step %d is the last one", i)
		}
		if s.Count() != count+1 {
			t.Errorf("step %d did %d accesses", i, s.Count()-count)
		}
		for range 2 {
			if x.Event() != e {
				t.Errorf("step %d tells %v, not %v", i, x.Event(), e)
			}
		}
	}
}

// ended does the last step, which tells that event, and further ones behind it,
// which do nothing.
func ended(t *testing.T, x *Machine, s *cells.Store, want api.Event) {
	t.Helper()
	count := s.Count()
	if !x.Step(s) {
		t.Error("Step is false at the last one")
	}
	if s.Count() != count+1 {
		t.Errorf("the last step did %d accesses", s.Count()-count)
	}
	if x.Event() != want {
		t.Errorf("the last step tells %v, not %v", x.Event(), want)
	}
	stays(t, x, s)
}

// stays asks that a machine that is finished does nothing more.
func stays(t *testing.T, x *Machine, s *cells.Store) {
	t.Helper()
	l, count := s.All(), s.Count()
	for range 3 {
		if !x.Step(s) {
			t.Error("Step is false behind the last one")
		}
		if x.Event() != none() {
			t.Errorf("%v is told behind the last one", x.Event())
		}
	}
	if s.Count() != count || !slices.Equal(s.All(), l) {
		t.Error("Step did something behind the last one")
	}
}

// atOnce asks that a machine is finished without a step.
func atOnce(t *testing.T, x *Machine, s *cells.Store) {
	t.Helper()
	if x.Event() != none() {
		t.Errorf("%v is told ahead of all", x.Event())
	}
	stays(t, x, s)
}

// keeps logs a node that isn't marked, alone, with room in the buffer.
func keeps(t *testing.T, b *Buffer, s *cells.Store, v int, cycle uint64) {
	t.Helper()
	x := b.Log(v, cycle)
	goes(t, x, s, quiet(2)...)
	ended(t, x, s, claimed(v))
}

// fills logs a node that isn't marked, alone, with which so many tasks are there,
// which come into the pool.
func fills(t *testing.T, b *Buffer, s *cells.Store, v int, cycle uint64, many int) {
	t.Helper()
	x := b.Log(v, cycle)
	goes(t, x, s, none(), none(), claimed(v))
	goes(t, x, s, quiet(many+6)...)
	ended(t, x, s, none())
}

// flushes puts so many tasks into the pool, alone.
func flushes(t *testing.T, b *Buffer, s *cells.Store, many int) {
	t.Helper()
	x := b.Flush()
	goes(t, x, s, quiet(many+6)...)
	ended(t, x, s, none())
}

// The chapter's example.
func TestTheExample(t *testing.T) {
	m := chart(t, 3, 2)
	s := cells.New(m.First()...)
	b := New(m)
	keeps(t, b, s, 1, 1)
	has(t, b, 1)
	x := b.Log(2, 1)
	goes(t, x, s, none(), none(), claimed(2))
	has(t, b, 1, 2)
	goes(t, x, s, quiet(8)...)
	has(t, b, 1, 2)
	ended(t, x, s, none())
	has(t, b)
	holds(t, m, s, 1, 2)
}

// P18.1
func TestNewHasNoTasks(t *testing.T) {
	m := chart(t, 3, 2)
	a, b := New(m), New(m)
	has(t, a)
	s := cells.New(m.First()...)
	keeps(t, a, s, 1, 1)
	has(t, a, 1)
	has(t, b) // each one is its own
	has(t, New(m))
}

// P18.1: in the order in which they came, whatever their numbers are.
func TestTasksInOrder(t *testing.T) {
	for _, nodes := range [][]int{{1, 2, 3}, {3, 2, 1}, {2, 12, 7}, {12, 1, 11}} {
		m := chart(t, 12, 4)
		s := cells.New(m.First()...)
		b := New(m)
		for i, v := range nodes {
			keeps(t, b, s, v, 1)
			has(t, b, nodes[:i+1]...)
		}
		flushes(t, b, s, 3)
		holds(t, m, s, nodes...)
	}
}

// P18.1: what is told is new memory.
func TestTasksAreNewMemory(t *testing.T) {
	m := chart(t, 4, 4)
	s := cells.New(m.First()...)
	b := New(m)
	keeps(t, b, s, 1, 1)
	keeps(t, b, s, 2, 1)
	l, k := b.Tasks(), b.Tasks()
	clear(l)
	l = append(l[:1], 99)
	if !slices.Equal(k, tasks(1, 2)) {
		t.Errorf("another list is %v", k)
	}
	has(t, b, 1, 2)
	keeps(t, b, s, 3, 1)
	has(t, b, 1, 2, 3)
	if !slices.Equal(l, []uint64{0, 99}) || !slices.Equal(k, tasks(1, 2)) {
		t.Errorf("the lists are %v and %v", l, k)
	}
	k = b.Tasks()
	x := b.Flush()
	goes(t, x, s, quiet(3)...)
	clear(b.Tasks()) // the tasks that come into the pool are none of these
	goes(t, x, s, quiet(6)...)
	ended(t, x, s, none())
	holds(t, m, s, 1, 2, 3)
	if !slices.Equal(k, tasks(1, 2, 3)) {
		t.Errorf("the list is %v", k)
	}
}

// P18.2: what each step does, and that it does nothing else.
func TestLogStepByStep(t *testing.T) {
	m := chart(t, 3, 2)
	for v := 1; v <= 3; v++ {
		l := m.First()
		l[m.Work()], l[m.Mark(v)] = 5, 6
		s := cells.New(l...)
		b := New(m)
		x := b.Log(v, 7)
		if x.Event() != none() {
			t.Error("something is told ahead of the first step")
		}
		is(t, s, l)
		goes(t, x, s, none())
		is(t, s, l)
		goes(t, x, s, none())
		l[m.Work()] = 6
		is(t, s, l)
		has(t, b)
		ended(t, x, s, claimed(v))
		l[m.Mark(v)] = 7
		is(t, s, l)
		has(t, b, v)
	}
}

// P18.2: with the last task that there is room for, all come into the pool.
func TestLogThatFlushesStepByStep(t *testing.T) {
	m := chart(t, 5, 3)
	l := m.First()
	l[m.Work()] = 5
	s := cells.New(l...)
	b := New(m)
	keeps(t, b, s, 4, 7)
	keeps(t, b, s, 1, 7)
	l[m.Work()], l[m.Mark(4)], l[m.Mark(1)] = 7, 7, 7
	is(t, s, l)
	x := b.Log(5, 7)
	goes(t, x, s, none(), none(), claimed(5))
	l[m.Work()], l[m.Mark(5)] = 8, 7
	is(t, s, l)
	goes(t, x, s, quiet(2)...)
	is(t, s, l)
	goes(t, x, s, none())
	l[m.Spare()] = 1<<32 + 2
	is(t, s, l)
	for j, v := range []int{4, 1, 5} {
		goes(t, x, s, none())
		l[m.Task(1, j)] = task(v)
		is(t, s, l)
	}
	goes(t, x, s, none())
	l[m.Many(1)] = 3
	is(t, s, l)
	goes(t, x, s, quiet(2)...)
	l[m.Link(1)] = 0
	is(t, s, l)
	has(t, b, 4, 1, 5)
	ended(t, x, s, none())
	l[m.Pool()] = 1<<32 + 1
	is(t, s, l)
	has(t, b)
	holds(t, m, s, 4, 1, 5)
}

// P18.2: each buffer flushes with as many tasks as the configuration tells, again
// and again.
func TestEachRoom(t *testing.T) {
	for room := 1; room <= 4; room++ {
		m := chart(t, 12, room)
		s := cells.New(m.First()...)
		b := New(m)
		var kept, pool []int
		for v := 1; v <= 12; v++ {
			kept = append(kept, v)
			if len(kept) < room {
				keeps(t, b, s, v, 3)
			} else {
				fills(t, b, s, v, 3, room)
				kept, pool = nil, append(kept, pool...)
			}
			has(t, b, kept...)
			holds(t, m, s, pool...)
			if w := s.Load(m.Work()); w != uint64(v) {
				t.Errorf("Work is %d, with %d tasks", w, v)
			}
		}
	}
}

// P18.2: the room is that of the configuration of the buffer's own map.
func TestBuffersOfTwoMaps(t *testing.T) {
	one, four := chart(t, 3, 1), chart(t, 3, 4)
	r, s := cells.New(one.First()...), cells.New(four.First()...)
	a, b := New(one), New(four)
	for v := 1; v <= 3; v++ {
		fills(t, a, r, v, 1, 1)
		keeps(t, b, s, v, 1)
	}
	has(t, a)
	has(t, b, 1, 2, 3)
}

// P18.2: a node that is marked already has no task.
func TestMarkedAlready(t *testing.T) {
	m := chart(t, 3, 2)
	for _, cycle := range []uint64{0, 1, 7, 1 << 32, 1<<60 - 1, 1 << 63, last} {
		for _, mark := range []uint64{cycle, cycle + 1, 1 << 63, last} {
			if mark < cycle {
				continue
			}
			l := m.First()
			l[m.Mark(2)] = mark
			s := cells.New(l...)
			b := New(m)
			ended(t, b.Log(2, cycle), s, none())
			is(t, s, l)
			has(t, b)
			if cycle > 0 {
				keeps(t, b, s, 1, cycle)
				ended(t, b.Log(2, cycle), s, none())
				ended(t, b.Log(1, cycle), s, none())
				has(t, b, 1)
			}
		}
	}
}

// P18.2: the cycle is the one that is handed in, and a later one marks anew.
func TestCycleByCycle(t *testing.T) {
	m := chart(t, 3, 4)
	s := cells.New(m.First()...)
	b := New(m)
	for _, cycle := range []uint64{1, 2, 3, math.MaxUint32, 1 << 32, 1<<60 - 1, 1 << 63, last} {
		for v := 1; v <= 3; v++ {
			keeps(t, b, s, v, cycle)
			if mark := s.Load(m.Mark(v)); mark != cycle {
				t.Errorf("in cycle %d the mark is %d", cycle, mark)
			}
			ended(t, b.Log(v, cycle), s, none())
			ended(t, b.Log(v, cycle-1), s, none())
		}
		has(t, b, 1, 2, 3)
		flushes(t, b, s, 3)
		x := packet.Take(m)
		for !x.Step(s) {
		}
		x = packet.Back(m, x.Packet())
		for !x.Step(s) {
		}
	}
}

// P18.2: a node that others mark between the steps is theirs.
func TestLogIsLost(t *testing.T) {
	m := chart(t, 3, 1)
	for ahead := 1; ahead <= 2; ahead++ { // of so many steps the node is marked behind
		l := m.First()
		l[m.Work()] = 5
		s := cells.New(l...)
		b := New(m)
		x := b.Log(2, 7)
		goes(t, x, s, quiet(ahead)...)
		s.Put(m.Mark(2), 7)
		goes(t, x, s, quiet(3-ahead)...)
		if w := s.Load(m.Work()); w != 6 {
			t.Errorf("Work is %d", w)
		}
		ended(t, x, s, none())
		l[m.Mark(2)] = 7
		is(t, s, l)
		has(t, b)
	}
}

// P18.2: the node of the last number, of whatever class, and the task of slot 0.
func TestEachNode(t *testing.T) {
	m, e := layout.New(layout.Config{Cells: [5]int{12, 12, 12, 12, 12}, Markers: 4, Mutators: 4, Deque: 8, Chunk: 16, Buffer: 4, Roots: 8, Sweep: 16})
	if e != 0 || m.Nodes() != 60 {
		t.Fatalf("a map: %v, %d nodes", e, m.Nodes())
	}
	s := cells.New(m.First()...)
	b := New(m)
	for v := 60; v >= 1; v-- {
		if v%4 == 1 {
			fills(t, b, s, v, 1, 4)
			has(t, b)
		} else {
			keeps(t, b, s, v, 1)
		}
		atOnce(t, b.Log(61, 1), s)
	}
	for v, w := range packet.Held(m, s.All()) {
		at := v/4*4 + 4 - v%4 // the last packet is the first one, and has the lowest numbers
		if w != task(at) {
			t.Errorf("task %d is %d, not that of node %d", v, w, at)
		}
	}
}

// P18.2: without such a node it is finished at once, and does nothing, even where
// the buffer is full.
func TestNoNode(t *testing.T) {
	m := chart(t, 3, 2)
	s := cells.New(m.First()...)
	b := New(m)
	for kept := 0; kept <= 2; kept++ {
		if kept > 0 {
			x := b.Log(kept, 1) // the second one's flush isn't done
			for range 3 {
				x.Step(s)
			}
		}
		l := s.All()
		for _, v := range []int{math.MinInt, -1 << 32, -1<<32 + 1, -2, -1, 0, 4, 5, 99, 1 << 32, 1<<32 + 1, math.MaxInt} {
			for _, cycle := range []uint64{0, 1, 9, last} {
				atOnce(t, b.Log(v, cycle), s)
			}
		}
		is(t, s, l)
		has(t, b, []int{1, 2}[:kept]...)
	}
}

// P18.3
func TestFlushStepByStep(t *testing.T) {
	m := chart(t, 3, 3)
	l := m.First()
	l[m.Work()] = 5
	s := cells.New(l...)
	b := New(m)
	keeps(t, b, s, 3, 1)
	keeps(t, b, s, 1, 1)
	l[m.Work()], l[m.Mark(3)], l[m.Mark(1)] = 7, 1, 1
	x := b.Flush()
	if x.Event() != none() {
		t.Error("something is told ahead of the first step")
	}
	is(t, s, l)
	goes(t, x, s, quiet(2)...)
	is(t, s, l)
	goes(t, x, s, none())
	l[m.Spare()] = 1<<32 + 2
	is(t, s, l)
	goes(t, x, s, none())
	l[m.Task(1, 0)] = task(3)
	is(t, s, l)
	goes(t, x, s, none())
	l[m.Task(1, 1)] = task(1)
	is(t, s, l)
	goes(t, x, s, none())
	l[m.Many(1)] = 2
	is(t, s, l)
	goes(t, x, s, quiet(2)...)
	l[m.Link(1)] = 0
	is(t, s, l)
	has(t, b, 3, 1)
	ended(t, x, s, none())
	l[m.Pool()] = 1<<32 + 1
	is(t, s, l)
	has(t, b)
}

// P18.3
func TestFlushOfNone(t *testing.T) {
	m := chart(t, 3, 2)
	s := cells.New(m.First()...)
	b := New(m)
	atOnce(t, b.Flush(), s)
	is(t, s, m.First())
	x := b.Flush() // there are none when it begins
	keeps(t, b, s, 1, 1)
	atOnce(t, x, s)
	has(t, b, 1)
	flushes(t, b, s, 1)
	atOnce(t, b.Flush(), s)
	has(t, b)
	holds(t, m, s, 1)
}

// P18.3: the tasks are those that are there when it begins; behind its last step
// there are none, whatever came between.
func TestFlushOfTasksAsTheyWere(t *testing.T) {
	m := chart(t, 4, 4)
	for ahead := range 9 { // of so many steps another task comes behind
		s := cells.New(m.First()...)
		b := New(m)
		keeps(t, b, s, 2, 1)
		keeps(t, b, s, 4, 1)
		x := b.Flush()
		goes(t, x, s, quiet(ahead)...)
		keeps(t, b, s, 3, 1)
		goes(t, x, s, quiet(8-ahead)...)
		has(t, b, 2, 4, 3)
		ended(t, x, s, none())
		has(t, b)
		holds(t, m, s, 2, 4)
		keeps(t, b, s, 1, 1)
		has(t, b, 1)
		stays(t, x, s)
		has(t, b, 1) // what comes behind the last step stays
	}
}

// P18.2, P18.3: where a flush began and never ends, its tasks stay, and a Log
// behind it flushes, with as many as the room or more, even if it isn't Won.
func TestLogWithAFullBuffer(t *testing.T) {
	m := chart(t, 6, 2)
	begin := func() (*cells.Store, *Buffer) {
		s := cells.New(m.First()...)
		b := New(m)
		keeps(t, b, s, 5, 1)
		x := b.Log(1, 1)
		goes(t, x, s, none(), none(), claimed(1))
		has(t, b, 5, 1)
		return s, b
	}
	s, b := begin()
	fills(t, b, s, 3, 1, 3)
	has(t, b)
	holds(t, m, s, 5, 1, 3)

	s, b = begin()
	x := b.Log(1, 1) // it is marked already
	goes(t, x, s, none())
	goes(t, x, s, quiet(8)...)
	has(t, b, 5, 1)
	ended(t, x, s, none())
	has(t, b)
	holds(t, m, s, 5, 1)

	s, b = begin()
	x = b.Log(2, 1) // another one is ahead
	goes(t, x, s, quiet(2)...)
	s.Put(m.Mark(2), 1)
	goes(t, x, s, quiet(2)...)
	goes(t, x, s, quiet(8)...)
	ended(t, x, s, none())
	has(t, b)
	holds(t, m, s, 5, 1)

	s, b = begin()
	for v := 2; v <= 4; v++ {
		x = b.Log(v, 1)
		goes(t, x, s, none(), none(), claimed(v))
	}
	has(t, b, 5, 1, 2, 3, 4)
	flushes(t, b, s, 4) // of more than four tasks a packet has the first four
	has(t, b)
	holds(t, m, s, 5, 1, 2, 3)
}

// P18.3: where there is no spare packet it looks again, an access a look.
func TestFlushWaitsForASparePacket(t *testing.T) {
	m := chart(t, 3, 2)
	l := m.First()
	spare := l[m.Spare()]
	l[m.Spare()] = 0
	s := cells.New(l...)
	b := New(m)
	keeps(t, b, s, 1, 1)
	x := b.Flush()
	goes(t, x, s, quiet(50)...)
	s.Put(m.Spare(), spare)
	goes(t, x, s, quiet(7)...)
	has(t, b, 1)
	ended(t, x, s, none())
	has(t, b)
	holds(t, m, s, 1)

	keeps(t, b, s, 2, 1)
	spare = s.Load(m.Spare())
	s.Put(m.Spare(), 1<<32)
	x = b.Log(3, 1)
	goes(t, x, s, none(), none(), claimed(3))
	goes(t, x, s, quiet(50)...)
	s.Put(m.Spare(), spare)
	goes(t, x, s, quiet(8)...)
	has(t, b, 2, 3)
	ended(t, x, s, none())
	has(t, b)
	holds(t, m, s, 2, 3, 1)
}

// P18.3: others are ahead at the spare ones and at the pool.
func TestFlushIsTriedAgain(t *testing.T) {
	m := chart(t, 3, 4)
	s := cells.New(m.First()...)
	a, b := New(m), New(m)
	keeps(t, a, s, 1, 1)
	keeps(t, b, s, 2, 1)
	x, y := a.Flush(), b.Flush()
	goes(t, x, s, quiet(2)...)
	goes(t, y, s, quiet(4)...)
	goes(t, x, s, quiet(1+3+4)...) // the swap is false; packet 2 is x's, up to its link
	goes(t, y, s, quiet(3)...)
	has(t, b, 2)
	ended(t, y, s, none())
	has(t, a, 1)
	has(t, b)
	goes(t, x, s, quiet(1+2)...) // the swap is false
	has(t, a, 1)
	holds(t, m, s, 2)
	ended(t, x, s, none())
	has(t, a)
	holds(t, m, s, 1, 2)
}

// P18.4
func TestNilMachine(t *testing.T) {
	m := chart(t, 1, 1)
	s := cells.New(m.First()...)
	var x *Machine
	atOnce(t, x, s)
	atOnce(t, x, nil)
	is(t, s, m.First())
}

// P18.4
func TestNilBufferAndNilMap(t *testing.T) {
	s := cells.New(5, 6, 7)
	if New(nil) == nil {
		t.Error("there is no buffer of a nil map")
	}
	for _, b := range []*Buffer{nil, New(nil)} {
		for range 2 {
			for _, store := range []*cells.Store{s, nil} {
				for _, v := range []int{math.MinInt, -1, 0, 1, 2, math.MaxInt} {
					for _, cycle := range []uint64{0, 1, 9, last} {
						atOnce(t, b.Log(v, cycle), store)
						has(t, b)
					}
				}
				atOnce(t, b.Flush(), store)
				has(t, b)
			}
		}
	}
	is(t, s, []uint64{5, 6, 7})
}

// In nil memory, and in one without the words, each step ends.
func TestMemoryWithoutWords(t *testing.T) {
	m := chart(t, 1, 2)
	for _, s := range []*cells.Store{nil, cells.New(), cells.New(m.First()[:m.Mark(1)]...)} {
		b := New(m)
		x := b.Log(1, 5)
		for step := range 4 {
			if x.Step(s) != (step == 3) || x.Event() != none() {
				t.Errorf("it ends behind step %d, or tells something", step)
			}
		}
		stays(t, x, s)
		has(t, b)
		if w := s.Load(m.Work()); w != 0 {
			t.Errorf("Work is %d", w)
		}
		y := cells.New(m.First()...)
		keeps(t, b, y, 1, 1)
		x = b.Flush()
		for range 3 {
			x.Step(s)
		}
		has(t, b, 1)
	}
}

// series tells the same numbers each time, each from 0 on and below an end.
type series uint64

func (s *series) below(end int) int {
	*s = *s*6364136223846793005 + 1442695040888963407
	return int(uint64(*s)>>33) % end
}

// saying is a buffer as the chapter's words have it, by the layers below.
type saying struct {
	m     *layout.Map
	s     *cells.Store
	tasks []uint64
	event api.Event // of the last step
}

// log is the steps of a Log, one by one: each ends ahead of a yield but the last
// one, which ends all.
func (b *saying) log(v int, cycle uint64) iter.Seq[int] {
	return func(yield func(int) bool) {
		b.event = api.Event{}
		if v < 1 || v > b.m.Nodes() {
			return
		}
		x := claim.New(b.m, v, cycle)
		for !x.Step(b.s) {
			if !yield(1) {
				return
			}
			b.event = api.Event{}
		}
		if x.Won() {
			b.event = api.Event{Kind: 1, A: v}
			b.tasks = append(b.tasks, task(v))
		}
		if len(b.tasks) >= b.m.Config().Buffer && yield(2) {
			b.flush()(yield)
		}
	}
}

// flush is those of a Flush.
func (b *saying) flush() iter.Seq[int] {
	return func(yield func(int) bool) {
		b.event = api.Event{}
		if len(b.tasks) == 0 {
			return
		}
		x := packet.Put(b.m, b.tasks...)
		for !x.Step(b.s) {
			if !yield(3) {
				return
			}
		}
		b.tasks = nil
	}
}

// P18.1 to P18.4: against the chapter's words, whatever stands in memory, whatever
// others do between the steps, and where some machines are left ahead of their end.
func TestAgainstTheWords(t *testing.T) {
	n := series(18)
	few := []uint64{0, 0, 0, 1, 1, 2, 3, 4, 5, 1 << 32, 1<<32 + 1, 1<<32 + 4, math.MaxUint32, 1 << 63, last}
	events, flushed := 0, 0
	for range 2000 {
		m := chart(t, 4+n.below(6), 1+n.below(4))
		places := []int{m.Work(), m.Spare(), m.Pool(), m.Mark(1), m.Mark(2), m.Mark(3), m.Mark(4), m.Link(1), m.Link(2), m.Many(1), m.Len() - 1, -1}
		l := m.First()
		for i := range l {
			if n.below(12) == 0 {
				l[i] = few[n.below(len(few))]
			}
		}
		if n.below(8) == 0 {
			l = l[:n.below(len(l))]
		}
		a := cells.New(l...)
		b, want := New(m), &saying{m: m, s: cells.New(l...)}
		for range 1 + n.below(16) {
			var x *Machine
			var steps iter.Seq[int]
			if n.below(4) == 0 {
				x, steps = b.Flush(), want.flush()
			} else {
				v, cycle := n.below(m.Nodes()+2), few[n.below(len(few))]
				x, steps = b.Log(v, cycle), want.log(v, cycle)
			}
			next, stop := iter.Pull(steps)
			finished := false
			for step := range 5 + n.below(20) {
				if n.below(6) == 0 {
					at, word := places[n.below(len(places))], few[n.below(len(few))]
					a.Put(at, word)
					want.s.Put(at, word)
				}
				if finished {
					want.event = api.Event{}
				}
				_, more := next()
				if x.Step(a) == more || x.Event() != want.event {
					t.Fatalf("%v, step %d: it tells %v, not %v; there are more: %v", m.Config(), step, x.Event(), want.event, more)
				}
				if !slices.Equal(b.Tasks(), want.tasks) {
					t.Fatalf("%v, step %d: its tasks are %v, not %v", m.Config(), step, b.Tasks(), want.tasks)
				}
				if !slices.Equal(a.All(), want.s.All()) || a.Count() != want.s.Count() {
					t.Fatalf("%v, step %d: memory is %v, not %v; %d accesses, not %d", m.Config(), step, a.All(), want.s.All(), a.Count(), want.s.Count())
				}
				if want.event.Kind != 0 {
					events++
				}
				if !more && !finished && step > 6 {
					flushed++
				}
				finished = !more
			}
			stop()
		}
	}
	if events < 1000 || flushed < 1000 {
		t.Errorf("there were %d events and %d flushes alone", events, flushed)
	}
}

// run is mutators that log nodes in cycles, all in one memory, and one that takes
// packets from the pool.
type run struct {
	m        *layout.Map
	s        *cells.Store
	n        *series
	cycle    uint64
	buffers  []*Buffer
	machines []*Machine // each mutator's, or nil
	claims   []int      // the nodes that were marked in this cycle
	all      int        // how many were ever
	took     []uint64   // tasks that were taken from the pool
}

// step has a mutator do a step of what it does, or begin something.
func (r *run) step(t *testing.T, who int, begins bool) {
	t.Helper()
	x := r.machines[who]
	if x == nil {
		if begins && r.n.below(6) > 0 {
			r.machines[who] = r.buffers[who].Log(r.n.below(r.m.Nodes()+2), r.cycle)
		} else if begins {
			r.machines[who] = r.buffers[who].Flush()
		}
		return
	}
	if x.Step(r.s) {
		r.machines[who] = nil
	}
	if e := x.Event(); e != none() {
		if e != claimed(e.A) || r.s.Load(r.m.Mark(e.A)) != r.cycle {
			t.Errorf("it tells %v", e)
		}
		r.claims = append(r.claims, e.A)
		r.all++
	}
	r.counts(t)
}

// take has a packet's tasks taken from the pool, and the packet put back.
func (r *run) take() {
	x := packet.Take(r.m)
	for !x.Step(r.s) {
	}
	p := x.Packet()
	if p == 0 {
		return
	}
	for j := range r.s.Load(r.m.Many(p)) {
		r.took = append(r.took, r.s.Load(r.m.Task(p, int(j))))
	}
	x = packet.Back(r.m, p)
	for !x.Step(r.s) {
	}
}

// tasks is all that there are of the cycle, wherever they are.
func (r *run) tasks() []uint64 {
	l := slices.Concat(r.took, packet.Held(r.m, r.s.All()))
	for _, b := range r.buffers {
		l = append(l, b.Tasks()...)
	}
	slices.Sort(l)
	return l
}

// counts asks that each node that was marked has one task, and that Work is as
// many as all that there ever were, and those that a machine may take back.
func (r *run) counts(t *testing.T) {
	t.Helper()
	slices.Sort(r.claims)
	if got, want := r.tasks(), tasks(r.claims...); !slices.Equal(got, want) {
		t.Fatalf("the tasks are %v, not %v", got, want)
	}
	work := int(r.s.Load(r.m.Work()))
	busy := 0
	for _, x := range r.machines {
		if x != nil {
			busy++
		}
	}
	if work < r.all || work > r.all+busy {
		t.Fatalf("Work is %d, where %d tasks came, and %d machines go on", work, r.all, busy)
	}
	for _, b := range r.buffers {
		if many := len(b.Tasks()); many > r.m.Config().Buffer {
			t.Fatalf("a buffer has %d tasks", many)
		}
	}
}

// P18.5: in whatever order steps come, each node that is marked has one task, in
// one place, and Work is 1 more for it.
func TestTasksInSomeOrders(t *testing.T) {
	n := series(185)
	for range 300 {
		m := chart(t, 2+n.below(11), 1+n.below(4))
		r := &run{m: m, s: cells.New(m.First()...), n: &n}
		for range 1 + n.below(4) {
			r.buffers = append(r.buffers, New(m))
			r.machines = append(r.machines, nil)
		}
		for range 3 {
			r.cycle++
			for range 200 {
				r.step(t, n.below(len(r.machines)), true)
				if n.below(20) == 0 {
					r.take()
				}
			}
			for slices.ContainsFunc(r.machines, func(x *Machine) bool { return x != nil }) {
				r.step(t, n.below(len(r.machines)), false)
			}
			for who, b := range r.buffers {
				r.machines[who] = b.Flush()
				for r.machines[who] != nil {
					r.step(t, who, false)
				}
				has(t, b)
			}
			r.counts(t)
			if slices.Max(append(r.claims, 0)) == 0 {
				t.Error("no node was marked")
			}
			if len(slices.Compact(r.claims)) != len(r.tasks()) {
				t.Errorf("nodes were marked twice: %v", r.tasks())
			}
			for len(packet.Held(m, r.s.All())) > 0 {
				r.take()
			}
			r.claims, r.took = nil, nil
			if t.Failed() {
				t.FailNow()
			}
		}
	}
}
