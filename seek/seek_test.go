package seek

import (
	"iter"
	"math"
	"slices"
	"testing"

	"dustman/add"
	"dustman/cells"
	"dustman/deque"
	"dustman/layout"
	"dustman/packet"
)

const last = math.MaxUint64

// chart is a map of so many markers, with deques of that room; it has 7 packets,
// and 2 for each marker.
func chart(t *testing.T, markers, room int) *layout.Map {
	t.Helper()
	m, e := layout.New(layout.Config{Cells: [5]int{3}, Markers: markers, Mutators: 1, Deque: room, Chunk: 1, Buffer: 1, Roots: 1, Sweep: 1})
	if e != 0 {
		t.Fatalf("a map of %d markers: %v", markers, e)
	}
	return m
}

// pack has a packet with those tasks in memory.
func pack(m *layout.Map, l []uint64, p int, tasks ...uint64) {
	l[m.Many(p)] = uint64(len(tasks))
	for j, w := range tasks {
		l[m.Task(p, j)] = w
	}
}

// pool has those packets in the pool in memory, and none else; the rest are the
// spare ones.
func pool(m *layout.Map, l []uint64, packets ...int) {
	spare := []int{}
	for p := 1; p <= m.Packets(); p++ {
		if !slices.Contains(packets, p) {
			spare = append(spare, p)
		}
	}
	chain(m, l, m.Pool(), packets)
	chain(m, l, m.Spare(), spare)
}

// chain has those packets linked in memory, with that head.
func chain(m *layout.Map, l []uint64, head int, packets []int) {
	for _, p := range packets {
		l[head] = uint64(p)
		head = m.Link(p)
	}
	l[head] = 0
}

// tasks has those tasks in a marker's deque in memory.
func tasks(m *layout.Map, l []uint64, i int, tasks ...uint64) {
	l[m.Bottom(i)] = l[m.Top(i)] + uint64(len(tasks))
	for j, w := range tasks {
		l[m.Entry(i, j)] = w
	}
}

// is asks that memory has those words.
func is(t *testing.T, s *cells.Store, want []uint64) {
	t.Helper()
	if got := s.All(); !slices.Equal(got, want) {
		t.Errorf("memory is %v, not %v", got, want)
	}
}

// finds asks what a machine tells.
func finds(t *testing.T, x *Machine, bag Bag, task uint64, found bool) {
	t.Helper()
	for range 2 {
		if w, ok := x.Task(); w != task || ok != found {
			t.Errorf("Task is %d, %v; not %d, %v", w, ok, task, found)
		}
		if x.Bag() != bag {
			t.Errorf("Bag is %v, not %v", x.Bag(), bag)
		}
	}
}

// goes does so many steps, of which none is the last one, with that bag behind
// each.
func goes(t *testing.T, x *Machine, s *cells.Store, steps int, bag Bag) {
	t.Helper()
	for i := range steps {
		count := s.Count()
		if x.Step(s) {
			t.Errorf("step %d is the last one", i)
		}
		if s.Count() != count+1 {
			t.Errorf("step %d did %d accesses", i, s.Count()-count)
		}
		finds(t, x, bag, 0, false)
	}
}

// ended does the last step, and further ones behind it, which do nothing.
func ended(t *testing.T, x *Machine, s *cells.Store, bag Bag, task uint64, found bool) {
	t.Helper()
	count := s.Count()
	if !x.Step(s) {
		t.Error("Step is false at the last one")
	}
	if s.Count() != count+1 {
		t.Errorf("the last step did %d accesses", s.Count()-count)
	}
	stays(t, x, s, bag, task, found)
}

// stays asks that a machine that is finished does nothing more.
func stays(t *testing.T, x *Machine, s *cells.Store, bag Bag, task uint64, found bool) {
	t.Helper()
	finds(t, x, bag, task, found)
	l, count := s.All(), s.Count()
	for range 3 {
		if !x.Step(s) {
			t.Error("Step is false behind the last one")
		}
		finds(t, x, bag, task, found)
	}
	if s.Count() != count || !slices.Equal(s.All(), l) {
		t.Error("Step did something behind the last one")
	}
}

// The chapter's example.
func TestTheExample(t *testing.T) {
	m := chart(t, 1, 2)
	s := cells.New(m.First()...)
	for _, draw := range []int{0, 1, 2, -1} {
		x := New(m, 0, Bag{}, draw)
		finds(t, x, Bag{}, 0, false)
		goes(t, x, s, 4, Bag{})
		ended(t, x, s, Bag{}, 0, false)
		is(t, s, m.First())
	}
}

// P15.1
func TestVictim(t *testing.T) {
	for all := 2; all <= 6; all++ {
		for i := -3; i <= all+3; i++ {
			for draw := -20; draw <= 20; draw++ {
				v := draw
				for v < 0 {
					v += all
				}
				for v >= all {
					v -= all
				}
				if v == i {
					v++
				}
				if v == all {
					v = 0
				}
				if got := Victim(all, i, draw); got != v {
					t.Errorf("Victim of %d, %d, %d is %d, not %d", all, i, draw, got, v)
				}
			}
		}
	}
}

// P15.1: without another one.
func TestNoVictim(t *testing.T) {
	edges := []int{math.MinInt, -1 << 32, -2, -1, 0, 1, 2, 3, 1 << 32, math.MaxInt}
	for _, all := range []int{math.MinInt, -1 << 32, -2, -1, 0, 1} {
		for _, i := range edges {
			for _, draw := range edges {
				if v := Victim(all, i, draw); v != -1 {
					t.Errorf("Victim of %d, %d, %d is %d", all, i, draw, v)
				}
			}
		}
	}
}

// P15.1: the edges of numbers.
func TestVictimOfGreatNumbers(t *testing.T) {
	for _, x := range [][4]int{
		{2, 0, math.MinInt, 1}, {2, 1, math.MinInt, 0}, {2, 0, math.MaxInt, 1}, {2, 1, math.MaxInt, 0},
		{3, 5, math.MinInt, 1}, {3, 1, math.MinInt, 2}, {3, 1, math.MaxInt, 2}, {3, math.MinInt, math.MaxInt, 1},
		{4, math.MaxInt, math.MaxInt, 3}, {4, 3, math.MaxInt, 0}, {4, 3, math.MinInt, 0}, {4, 0, math.MinInt, 1},
		{math.MaxInt, 0, 0, 1}, {math.MaxInt, 0, -1, math.MaxInt - 1}, {math.MaxInt, math.MaxInt - 1, -1, 0},
		{math.MaxInt, 0, math.MaxInt, 1}, {math.MaxInt, 1, math.MaxInt, 0}, {math.MaxInt, 1, math.MinInt, math.MaxInt - 1},
		{math.MaxInt, math.MaxInt - 1, math.MinInt, 0}, {math.MaxInt, math.MaxInt - 1, math.MaxInt - 1, 0},
		{1 << 32, 1, 1<<32 + 1, 2}, {1 << 32, 1<<32 - 1, 1<<32 - 1, 0},
	} {
		if v := Victim(x[0], x[1], x[2]); v != x[3] {
			t.Errorf("Victim of %d, %d, %d is %d, not %d", x[0], x[1], x[2], v, x[3])
		}
	}
}

// P15.2 (1): a task of its own comes first, and the bag is as it was.
func TestItsOwnTask(t *testing.T) {
	for i := range 3 {
		for _, b := range []Bag{{}, {Packet: 2, At: 1, Many: 3}, {Packet: 2, At: 3, Many: 3}, {Packet: 2, At: 4, Many: 4}, {Packet: 99, At: 1, Many: 2}} {
			m := chart(t, 3, 4)
			l := m.First()
			pool(m, l, 1)
			pack(m, l, 1, 71, 72)
			pack(m, l, 2, 81, 82, 83)
			for j := range 3 {
				tasks(m, l, j, uint64(10*j+1), uint64(10*j+2))
			}
			s := cells.New(l...)
			x := New(m, i, b, 1)
			is(t, s, l)
			finds(t, x, b, 0, false)
			goes(t, x, s, 1, b)
			is(t, s, l)
			goes(t, x, s, 1, b)
			l[m.Bottom(i)] = 1
			is(t, s, l)
			goes(t, x, s, 1, b)
			ended(t, x, s, b, uint64(10*i+2), true)
			is(t, s, l)

			x = New(m, i, b, 1) // the only one left, which others could have
			goes(t, x, s, 5, b)
			ended(t, x, s, b, uint64(10*i+1), true)
			l[m.Top(i)] = 1
			is(t, s, l)
		}
	}
}

// P15.2 (1): a task whose word is 0 is found, too.
func TestTaskOfNought(t *testing.T) {
	m := chart(t, 2, 2)
	l := m.First()
	tasks(m, l, 0, 9, 0)
	s := cells.New(l...)
	x := New(m, 0, Bag{}, 0)
	goes(t, x, s, 3, Bag{})
	ended(t, x, s, Bag{}, 0, true)
}

// P15.2 (2): each task that the bag has, one by one.
func TestTasksOfTheBag(t *testing.T) {
	m := chart(t, 2, 2)
	for many := 1; many <= 4; many++ {
		l := m.First()
		pool(m, l, 1, 2)
		pack(m, l, 1, 71)
		pack(m, l, 3, 81, 82, 83, 84)
		tasks(m, l, 1, 91)
		s := cells.New(l...)
		for at := range many {
			b := Bag{Packet: 3, At: at, Many: many}
			x := New(m, 0, b, 1)
			finds(t, x, b, 0, false)
			goes(t, x, s, 4, b)
			ended(t, x, s, Bag{Packet: 3, At: at + 1, Many: many}, uint64(81+at), true)
			is(t, s, l)
		}
	}
}

// P15.2 (2): how many there are is what the bag tells, not what the packet does.
func TestManyIsTheBags(t *testing.T) {
	m := chart(t, 1, 2)
	l := m.First()
	pool(m, l)
	pack(m, l, 3, 81)
	l[m.Task(3, 1)] = 82
	s := cells.New(l...)
	x := New(m, 0, Bag{Packet: 3, At: 1, Many: 2}, 0)
	goes(t, x, s, 4, Bag{Packet: 3, At: 1, Many: 2})
	ended(t, x, s, Bag{Packet: 3, At: 2, Many: 2}, 82, true)
	is(t, s, l)
}

// P15.2 (3): a packet whose tasks were all taken goes back, and the bag is a zero
// one from there on.
func TestPacketGoesBack(t *testing.T) {
	for _, b := range []Bag{{3, 0, 0}, {3, 1, 1}, {3, 4, 4}, {3, 2, 1}, {3, 4, 0}} {
		m := chart(t, 1, 2)
		l := m.First()
		pool(m, l, 1, 2, 3)
		chain(m, l, m.Pool(), nil)
		pack(m, l, 3, 81, 82, 83, 84)
		s := cells.New(l...)
		x := New(m, 0, b, 0)
		goes(t, x, s, 3, b)
		goes(t, x, s, 1, Bag{})
		is(t, s, l)
		goes(t, x, s, 1, Bag{})
		is(t, s, l)
		goes(t, x, s, 1, Bag{})
		l[m.Link(3)] = 4
		is(t, s, l)
		goes(t, x, s, 1, Bag{})
		l[m.Spare()] = 1<<32 + 3
		is(t, s, l)
		ended(t, x, s, Bag{}, 0, false)
		is(t, s, l)
	}
}

// P15.2 (3): where others turn the spare ones' head, that is tried again.
func TestPacketGoesBackLater(t *testing.T) {
	m := chart(t, 1, 2)
	l := m.First()
	pool(m, l, 1)
	chain(m, l, m.Pool(), nil)
	s := cells.New(l...)
	x := New(m, 0, Bag{Packet: 1, At: 2, Many: 2}, 0)
	goes(t, x, s, 3, Bag{Packet: 1, At: 2, Many: 2})
	goes(t, x, s, 1+2, Bag{})
	s.Put(m.Spare(), 7<<32+3)
	goes(t, x, s, 1+3, Bag{})
	ended(t, x, s, Bag{}, 0, false)
	l[m.Spare()], l[m.Link(1)] = 8<<32+1, 3
	is(t, s, l)
}

// P15.2 (3): of no packet there are no steps that put it back.
func TestNoPacketGoesBack(t *testing.T) {
	m := chart(t, 1, 2)
	for _, p := range []int{math.MinInt, -1 << 32, -1, 0, m.Packets() + 1, 99, 1 << 32, 1<<32 + 1, math.MaxInt} {
		for _, n := range [][2]int{{0, 0}, {1, 1}, {4, 4}, {3, 2}} {
			l := m.First()
			s := cells.New(l...)
			b := Bag{p, n[0], n[1]}
			x := New(m, 0, b, 0)
			finds(t, x, b, 0, false)
			goes(t, x, s, 3, b)
			goes(t, x, s, 1, Bag{})
			ended(t, x, s, Bag{}, 0, false)
			is(t, s, l)
		}
	}
}

// P15.2 (2): of no packet a task is a word that isn't there.
func TestTaskOfNoPacket(t *testing.T) {
	m := chart(t, 1, 2)
	for _, p := range []int{math.MinInt, -1, m.Packets() + 1, 99, 1 << 32, 1<<32 + 1, math.MaxInt} {
		l := make([]uint64, m.Len())
		for i := range l {
			l[i] = 7
		}
		s := cells.New(l...)
		x := New(m, 0, Bag{p, 1, 2}, 0)
		goes(t, x, s, 1, Bag{p, 1, 2})
		s.Put(m.Bottom(0), 7) // nothing is in the deque
		goes(t, x, s, 3, Bag{p, 1, 2})
		ended(t, x, s, Bag{p, 2, 2}, 0, true)
		is(t, s, l)
	}
}

// P15.2 (2): a bag without a packet has no task, whatever its numbers are.
func TestBagWithoutAPacket(t *testing.T) {
	m := chart(t, 1, 2)
	l := m.First()
	pool(m, l, 1)
	pack(m, l, 1, 71, 72)
	s := cells.New(l...)
	b := Bag{Packet: 0, At: 1, Many: 3}
	x := New(m, 0, b, 0)
	goes(t, x, s, 3, b)
	goes(t, x, s, 1+3, Bag{})
	goes(t, x, s, 1, Bag{1, 0, 2})
	ended(t, x, s, Bag{1, 1, 2}, 71, true)
}

// P15.2 (4), (5), (2): a packet that is taken from the pool, and its first task.
func TestPacketIsTaken(t *testing.T) {
	for many := 1; many <= 4; many++ {
		m := chart(t, 2, 2)
		l := m.First()
		pool(m, l, 2, 4)
		pack(m, l, 2, []uint64{71, 72, 73, 74}[:many]...)
		pack(m, l, 4, 81)
		tasks(m, l, 0, 91)
		s := cells.New(l...)
		x := New(m, 1, Bag{}, 0)
		goes(t, x, s, 4+2, Bag{})
		is(t, s, l)
		goes(t, x, s, 1, Bag{})
		l[m.Pool()] = 1<<32 + 4
		is(t, s, l)
		b := Bag{Packet: 2, At: 0, Many: many}
		goes(t, x, s, 1, b)
		is(t, s, l)
		b.At = 1
		ended(t, x, s, b, 71, true)
		is(t, s, l)
	}
}

// P15.2 (3), (4): a packet goes back, then another one is taken.
func TestPacketForAPacket(t *testing.T) {
	m := chart(t, 2, 2)
	l := m.First()
	pool(m, l, 2, 4)
	pack(m, l, 2, 71, 72)
	s := cells.New(l...)
	x := New(m, 0, Bag{1, 3, 3}, 0)
	goes(t, x, s, 3, Bag{1, 3, 3})
	goes(t, x, s, 1+3+3, Bag{})
	goes(t, x, s, 1, Bag{2, 0, 2})
	ended(t, x, s, Bag{2, 1, 2}, 71, true)
	l[m.Link(1)], l[m.Spare()], l[m.Pool()] = 1, 1<<32+1, 1<<32+4
	is(t, s, l)
}

// P15.2 (5): Many is a number from 0 on, and counts as 4, if it is above.
func TestManyOfAPacket(t *testing.T) {
	m := chart(t, 1, 2)
	for _, many := range []uint64{1, 2, 3, 4, 5, 6, 1 << 31, math.MaxUint32, 1 << 32, 1<<32 + 1, math.MaxInt64, 1 << 63, 1<<63 + 1, last - 1, last} {
		l := m.First()
		pool(m, l, 2)
		pack(m, l, 2, 71, 72, 73, 74)
		l[m.Many(2)] = many
		s := cells.New(l...)
		x := New(m, 0, Bag{}, 0)
		goes(t, x, s, 4+3, Bag{})
		goes(t, x, s, 1, Bag{2, 0, int(min(many, 4))})
		ended(t, x, s, Bag{2, 1, int(min(many, 4))}, 71, true)
	}
}

// P15.2 (5), (3): a packet without tasks goes back, and the pool is asked again.
func TestPacketWithoutTasks(t *testing.T) {
	m := chart(t, 1, 2)
	l := m.First()
	pool(m, l, 2, 4, 3)
	pack(m, l, 3, 81)
	s := cells.New(l...)
	x := New(m, 0, Bag{}, 0)
	goes(t, x, s, 4+3+1+3+3+1+3+3, Bag{})
	goes(t, x, s, 1, Bag{3, 0, 1})
	ended(t, x, s, Bag{3, 1, 1}, 81, true)
	l[m.Pool()], l[m.Link(2)], l[m.Link(4)], l[m.Spare()] = 3<<32, 1, 2, 2<<32+4
	is(t, s, l)

	pool(m, l, 2) // there is none behind it
	l[m.Many(2)] = 0
	s = cells.New(l...)
	x = New(m, 0, Bag{}, 0)
	goes(t, x, s, 4+3+1+3, Bag{})
	ended(t, x, s, Bag{}, 0, false)
}

// P15.2 (5): what the pool's head tells may be no packet.
func TestNoPacketInThePool(t *testing.T) {
	m := chart(t, 1, 2)
	for _, p := range []uint64{uint64(m.Packets()) + 1, 99, 1 << 31, math.MaxUint32} {
		l := m.First()
		l[m.Pool()] = p
		s := cells.New(l...)
		x := New(m, 0, Bag{}, 0)
		goes(t, x, s, 4+3+1, Bag{})
		ended(t, x, s, Bag{}, 0, false)
		l[m.Pool()] = 1 << 32
		is(t, s, l)
	}
}

// P15.2 (4): where others turn the pool's head, that is tried again.
func TestPacketIsTakenLater(t *testing.T) {
	m := chart(t, 1, 2)
	l := m.First()
	pool(m, l, 2, 4)
	pack(m, l, 4, 81)
	s := cells.New(l...)
	x := New(m, 0, Bag{}, 0)
	goes(t, x, s, 4+2, Bag{})
	s.Put(m.Pool(), 1<<32+4) // another one took packet 2
	goes(t, x, s, 1+3, Bag{})
	goes(t, x, s, 1, Bag{4, 0, 1})
	ended(t, x, s, Bag{4, 1, 1}, 81, true)
	l[m.Pool()] = 2 << 32
	is(t, s, l)

	s = cells.New(l...)
	s.Put(m.Pool(), 2<<32+4)
	x = New(m, 0, Bag{}, 0)
	goes(t, x, s, 4+2, Bag{})
	s.Put(m.Pool(), 3<<32) // another one took the last one
	goes(t, x, s, 1, Bag{})
	ended(t, x, s, Bag{}, 0, false)
}

// P15.2 (6): the victim's first task is stolen.
func TestStolen(t *testing.T) {
	for all := 2; all <= 4; all++ {
		for i := range all {
			for draw := -9; draw <= 9; draw++ {
				m := chart(t, all, 3)
				l := m.First()
				for j := range all {
					if j != i {
						tasks(m, l, j, uint64(10*j+1), uint64(10*j+2), uint64(10*j+3))
					}
				}
				s := cells.New(l...)
				x := New(m, i, Bag{}, draw)
				v := Victim(all, i, draw)
				goes(t, x, s, 4+1+3, Bag{})
				is(t, s, l)
				ended(t, x, s, Bag{}, uint64(10*v+1), true)
				l[m.Top(v)] = 1
				is(t, s, l)
			}
		}
	}
}

// P15.2 (6): the victim has nothing, whatever another one has.
func TestNothingToSteal(t *testing.T) {
	m := chart(t, 3, 2)
	l := m.First()
	tasks(m, l, 2, 91, 92)
	s := cells.New(l...)
	x := New(m, 0, Bag{}, 1)
	goes(t, x, s, 4+1+1, Bag{})
	ended(t, x, s, Bag{}, 0, false)
	is(t, s, l)
}

// P15.2 (6): where another one was ahead, there is no further try.
func TestStealIsLost(t *testing.T) {
	m := chart(t, 2, 4)
	l := m.First()
	tasks(m, l, 1, 91, 92, 93)
	s := cells.New(l...)
	x := New(m, 0, Bag{}, 1)
	goes(t, x, s, 4+1+3, Bag{})
	s.Put(m.Top(1), 1)
	ended(t, x, s, Bag{}, 0, false)
	l[m.Top(1)] = 1
	is(t, s, l)
}

// P15.2 (6): the bag stays a zero one, where the packet went back ahead.
func TestStolenBehindABag(t *testing.T) {
	m := chart(t, 2, 4)
	l := m.First()
	pool(m, l, 2)
	chain(m, l, m.Pool(), nil)
	tasks(m, l, 0, 91)
	s := cells.New(l...)
	x := New(m, 1, Bag{2, 4, 4}, 0)
	goes(t, x, s, 3, Bag{2, 4, 4})
	goes(t, x, s, 1+3+1+3, Bag{})
	ended(t, x, s, Bag{}, 91, true)
	l[m.Link(2)], l[m.Spare()], l[m.Top(0)] = 1, 1<<32+2, 1
	is(t, s, l)
}

// P15.2 (1): where its own last task is stolen, it goes on.
func TestItsOwnTaskIsStolen(t *testing.T) {
	m := chart(t, 1, 2)
	l := m.First()
	tasks(m, l, 0, 91)
	pack(m, l, 3, 81)
	s := cells.New(l...)
	b := Bag{3, 0, 1}
	x := New(m, 0, b, 0)
	goes(t, x, s, 4, b)
	s.Put(m.Top(0), 1)
	goes(t, x, s, 2, b)
	ended(t, x, s, Bag{3, 1, 1}, 81, true)
	l[m.Top(0)] = 1
	is(t, s, l)
}

// P15.3: an At or a Many below 0 counts as 0, above 4 as 4.
func TestNumbersOfABag(t *testing.T) {
	m := chart(t, 1, 2)
	edges := []int{math.MinInt, -1 << 32, -5, -1, 0, 1, 2, 3, 4, 5, 6, 1 << 31, 1 << 32, 1<<32 + 1, math.MaxInt}
	for _, at := range edges {
		for _, many := range edges {
			l := m.First()
			pool(m, l, 3)
			chain(m, l, m.Pool(), nil)
			pack(m, l, 3, 81, 82, 83, 84)
			s := cells.New(l...)
			x := New(m, 0, Bag{3, at, many}, 0)
			b := Bag{3, min(max(at, 0), 4), min(max(many, 0), 4)}
			goes(t, x, s, 3, b)
			if b.At < b.Many {
				goes(t, x, s, 1, b)
				ended(t, x, s, Bag{3, b.At + 1, b.Many}, uint64(81+b.At), true)
				continue
			}
			goes(t, x, s, 1+3, Bag{})
			ended(t, x, s, Bag{}, 0, false)
		}
	}
}

// P15.3: without such a marker nothing is done, and the bag is as it was.
func TestNoMarker(t *testing.T) {
	for all := 1; all <= 4; all++ {
		m := chart(t, all, 2)
		l := m.First()
		pool(m, l, 2)
		pack(m, l, 2, 71)
		tasks(m, l, 0, 91)
		s := cells.New(l...)
		for _, i := range []int{math.MinInt, -1 << 32, -1, all, all + 1, 99, 1 << 32, math.MaxInt} {
			for _, b := range []Bag{{}, {2, 1, 3}, {2, 3, 3}, {9, 77, 0}, {-1, -2, 5}, {0, 1, 2}, {math.MaxInt, math.MinInt, math.MaxInt}} {
				x := New(m, i, b, 0)
				if x == nil {
					t.Fatal("there is no machine")
				}
				stays(t, x, s, b, 0, false)
				stays(t, x, nil, b, 0, false)
			}
		}
		is(t, s, l)
	}
}

// P15.3
func TestNilMap(t *testing.T) {
	s := cells.New(5, 6, 7)
	for _, i := range []int{math.MinInt, -1, 0, 1, math.MaxInt} {
		for _, b := range []Bag{{}, {2, 1, 3}, {9, 77, -1}} {
			x := New(nil, i, b, 0)
			if x == nil {
				t.Fatal("there is no machine")
			}
			stays(t, x, s, b, 0, false)
			stays(t, x, nil, b, 0, false)
		}
	}
	is(t, s, []uint64{5, 6, 7})
}

// P15.3
func TestNilMachine(t *testing.T) {
	m := chart(t, 1, 2)
	s := cells.New(m.First()...)
	var x *Machine
	stays(t, x, s, Bag{}, 0, false)
	stays(t, x, nil, Bag{}, 0, false)
}

// In nil memory, and in one without the words, each step ends.
func TestMemoryWithoutWords(t *testing.T) {
	m := chart(t, 2, 2)
	for _, s := range []*cells.Store{nil, cells.New(), cells.New(m.First()[:m.Work()]...)} {
		// Bottom is 0, less 1: Top is ahead of it.
		for _, c := range []struct {
			b     Bag
			steps int
			end   Bag
			found bool
		}{{Bag{}, 4 + 1 + 2, Bag{}, false}, {Bag{2, 1, 3}, 4 + 1, Bag{2, 2, 3}, true}} {
			x := New(m, 0, c.b, 1)
			for n := 1; !x.Step(s); n++ {
				if n >= c.steps {
					t.Fatalf("there are more than %d steps", c.steps)
				}
			}
			stays(t, x, s, c.end, 0, c.found)
		}
	}
	// A packet can't be put back where the spare ones have no head: it is tried again.
	s := cells.New(m.First()[:m.Spare()]...)
	x := New(m, 0, Bag{2, 3, 3}, 1)
	goes(t, x, s, 3, Bag{2, 3, 3})
	goes(t, x, s, 100, Bag{})
}

// series tells the same numbers each time, each from 0 on and below an end.
type series uint64

func (s *series) below(end int) int {
	*s = *s*6364136223846793005 + 1442695040888963407
	return int(uint64(*s)>>33) % end
}

// state is what a machine tells behind a step.
type state struct {
	finished bool
	task     uint64
	found    bool
	bag      Bag
}

// saying is a machine as the chapter's words have it, by the layers below.
type saying struct {
	m    *layout.Map
	s    *cells.Store
	i    int
	b    Bag
	draw int
}

// ends is where a marker's deque stands.
func (x *saying) ends(i int) deque.Ends {
	return deque.Ends{Top: x.m.Top(i), Bottom: x.m.Bottom(i), Entry: x.m.Entry(i, 0), Room: x.m.Config().Deque}
}

// victim is P15.1.
func (x *saying) victim() int {
	all := x.m.Config().Markers
	if all < 2 {
		return -1
	}
	v := (x.draw%all + all) % all
	if v == x.i {
		v = (v + 1) % all
	}
	return v
}

// steps is its steps, one by one, each ahead of a yield that tells what is told
// behind it.
func (x *saying) steps() iter.Seq[state] {
	return func(yield func(state) bool) {
		b := Bag{x.b.Packet, min(max(x.b.At, 0), 4), min(max(x.b.Many, 0), 4)}
		pop := deque.Pop(x.ends(x.i)) // (1)
		for !pop.Step(x.s) {
			if !yield(state{bag: b}) {
				return
			}
		}
		if result, w := pop.Result(); result == deque.Done {
			yield(state{true, w, true, b})
			return
		}
		for {
			if b.Packet != 0 && b.At < b.Many { // (2)
				if !yield(state{bag: b}) {
					return
				}
				w := x.s.Load(x.m.Task(b.Packet, b.At))
				b.At++
				yield(state{true, w, true, b})
				return
			}
			p := b.Packet // (3)
			b = Bag{}
			if !yield(state{bag: b}) { // of the step ahead of it
				return
			}
			if 1 <= p && p <= x.m.Packets() {
				back := packet.Back(x.m, p)
				for !back.Step(x.s) {
					if !yield(state{bag: b}) {
						return
					}
				}
				if !yield(state{bag: b}) {
					return
				}
			}
			take := packet.Take(x.m) // (4)
			for !take.Step(x.s) {
				if !yield(state{bag: b}) {
					return
				}
			}
			if take.Packet() == 0 {
				break
			}
			if !yield(state{bag: b}) {
				return
			}
			b = Bag{take.Packet(), 0, int(min(x.s.Load(x.m.Many(take.Packet())), 4))} // (5)
		}
		v := x.victim() // (6)
		if v == -1 {
			yield(state{finished: true})
			return
		}
		if !yield(state{}) {
			return
		}
		steal := deque.Steal(x.ends(v))
		for !steal.Step(x.s) {
			if !yield(state{}) {
				return
			}
		}
		result, w := steal.Result()
		yield(state{true, w, result == deque.Done, Bag{}})
	}
}

// P15.2, P15.3: against the chapter's words, whatever stands in memory, and
// whatever others do between the steps.
func TestAgainstTheWords(t *testing.T) {
	n := series(15)
	few := []uint64{0, 0, 1, 2, 3, 4, 5, 6, 7, 9, 1<<32 + 1, 7<<32 + 2, math.MaxUint32, 1<<63 - 1, 1 << 63, last - 1, last}
	numbers := []int{0, 0, 1, 1, 2, 2, 3, 3, 4, 4, 5, -1, 99, math.MinInt, math.MaxInt}
	found, without, bags := 0, 0, 0
	for range 6000 {
		m := chart(t, 1+n.below(3), 2+n.below(2))
		i := n.below(m.Config().Markers)
		places := []int{
			m.Pool(), m.Spare(), m.Top(0), m.Bottom(0), m.Top(i), m.Bottom(i), m.Top(1), m.Bottom(1), m.Link(1), m.Link(2), m.Link(3),
			m.Many(1), m.Many(2), m.Many(3), m.Task(1, 0), m.Task(2, 1), m.Entry(0, 0), m.Entry(i, 1), 0, m.Len() - 1, -1,
		}
		l := m.First()
		for p := m.Pool(); p < m.Header(1); p++ {
			if n.below(3) == 0 {
				l[p] = few[n.below(len(few))]
			}
		}
		if n.below(2) == 0 { // the deque is empty
			l[m.Bottom(i)] = l[m.Top(i)]
		}
		if n.below(8) == 0 {
			l = l[:n.below(len(l))]
		}
		a, b := cells.New(l...), cells.New(l...)
		bag := Bag{numbers[n.below(len(numbers))], numbers[n.below(len(numbers))], numbers[n.below(len(numbers))]}
		want := &saying{m: m, s: b, i: i, b: bag, draw: numbers[n.below(len(numbers))]}
		x := New(m, i, bag, want.draw)
		next, stop := iter.Pull(want.steps())
		is := state{}
		for step := range 60 {
			if n.below(5) == 0 {
				at, word := places[n.below(len(places))], few[n.below(len(few))]
				a.Put(at, word)
				b.Put(at, word)
			}
			if !is.finished {
				is, _ = next()
			}
			finished := x.Step(a)
			task, ok := x.Task()
			if got := (state{finished, task, ok, x.Bag()}); got != is {
				t.Fatalf("marker %d, bag %v, draw %d, step %d: it is %v, not %v", i, bag, want.draw, step, got, is)
			}
			if !slices.Equal(a.All(), b.All()) || a.Count() != b.Count() {
				t.Fatalf("marker %d, bag %v, draw %d, step %d: memory is %v, not %v; %d accesses, not %d", i, bag, want.draw, step, a.All(), b.All(), a.Count(), b.Count())
			}
		}
		stop()
		switch {
		case is.found && is.bag != none():
			bags++
		case is.found:
			found++
		case is.finished:
			without++
		}
	}
	if found < 200 || without < 200 || bags < 200 {
		t.Errorf("there were %d that found one, %d with a bag, and %d without, alone", found, bags, without)
	}
}

// run is markers that look for tasks, and others that put some.
type run struct {
	m     *layout.Map
	s     *cells.Store
	seeks []*Machine // each marker's
	adds  []*add.Machine
	bags  []Bag
	puts  []*packet.Machine // those of others
	put   uint64            // how many tasks were put: 1, 2, and so on
	out   []uint64
}

// task is the next one that is put.
func (r *run) task() uint64 {
	r.put++
	return r.put
}

// mayPut tells whether there is a packet for another task: each one that wasn't
// found may have a packet, and each marker may have one in its bag.
func (r *run) mayPut() bool {
	return int(r.put)-len(r.out) < r.m.Packets()-len(r.seeks)
}

// step does a step of a marker, which puts a task, or looks for one.
func (r *run) step(i, draw int, more bool) {
	switch {
	case r.adds[i] != nil:
		if r.adds[i].Step(r.s) {
			r.adds[i] = nil
		}
	case r.seeks[i] != nil:
		if !r.seeks[i].Step(r.s) {
			return
		}
		if w, ok := r.seeks[i].Task(); ok {
			r.out = append(r.out, w)
		}
		r.bags[i], r.seeks[i] = r.seeks[i].Bag(), nil
	case more && r.mayPut():
		r.adds[i] = add.New(r.m, i, r.task())
	default:
		r.seeks[i] = New(r.m, i, r.bags[i], draw)
	}
}

// stepPut does a step of another one, which puts a packet.
func (r *run) stepPut(i, many int) {
	if r.puts[i] == nil {
		if !r.mayPut() {
			return
		}
		l := make([]uint64, many)
		for j := range l {
			l[j] = r.task()
		}
		r.puts[i] = packet.Put(r.m, l...)
	}
	if r.puts[i].Step(r.s) {
		r.puts[i] = nil
	}
}

// finish does steps till all tasks that were put were found.
func (r *run) finish(t *testing.T, n *series) {
	t.Helper()
	for steps := 0; len(r.out) < int(r.put); steps++ {
		if steps > 20000 {
			t.Fatalf("of %d tasks %d were found", r.put, len(r.out))
		}
		if i := n.below(len(r.puts)); r.puts[i] != nil {
			r.stepPut(i, 0)
		}
		r.step(n.below(len(r.seeks)), n.below(1000)-500, false)
	}
	for i := range r.seeks { // their bags go back
		for range 20 {
			r.step(i, 0, false)
		}
	}
}

// P15.2: in whatever order steps come, each task is found by one, and no packet
// is lost.
func TestEachTaskIsFoundOnce(t *testing.T) {
	n := series(151)
	for range 300 {
		markers := 1 + n.below(4)
		m := chart(t, markers, 2+n.below(7))
		r := &run{
			m: m, s: cells.New(m.First()...), puts: make([]*packet.Machine, 2), bags: make([]Bag, markers),
			seeks: make([]*Machine, markers), adds: make([]*add.Machine, markers),
		}
		for range 400 {
			// Some go on for a while, as if the others slept.
			who, more := n.below(markers+2), n.below(3) == 0
			for range 1 + n.below(6) {
				if who < markers {
					r.step(who, n.below(1000)-500, more)
				} else {
					r.stepPut(who-markers, 1+n.below(4))
				}
			}
		}
		r.finish(t, &n)
		slices.Sort(r.out)
		want := make([]uint64, r.put)
		for k := range want {
			want[k] = uint64(k + 1)
		}
		if !slices.Equal(r.out, want) {
			t.Fatalf("of %d tasks there were %v", r.put, r.out)
		}
		spare := 0
		for p := r.s.Load(m.Spare()) % (1 << 32); p != 0 && spare <= m.Packets(); p = r.s.Load(m.Link(int(p))) {
			spare++
		}
		if spare != m.Packets() {
			t.Fatalf("of %d packets %d are spare", m.Packets(), spare)
		}
	}
}

// P15.3: each machine is told of its own steps alone.
func TestEachMachineIsItsOwn(t *testing.T) {
	m := chart(t, 2, 2)
	l := m.First()
	pool(m, l, 2, 4)
	pack(m, l, 2, 71, 72)
	pack(m, l, 4, 81)
	s := cells.New(l...)
	x, y := New(m, 0, Bag{}, 0), New(m, 1, Bag{}, 0)
	goes(t, x, s, 4+3, Bag{})
	goes(t, y, s, 4+3, Bag{})
	goes(t, x, s, 1, Bag{2, 0, 2})
	finds(t, y, Bag{}, 0, false)
	goes(t, y, s, 1, Bag{4, 0, 1})
	ended(t, x, s, Bag{2, 1, 2}, 71, true)
	finds(t, y, Bag{4, 0, 1}, 0, false)
	ended(t, y, s, Bag{4, 1, 1}, 81, true)
	stays(t, x, s, Bag{2, 1, 2}, 71, true)
}
