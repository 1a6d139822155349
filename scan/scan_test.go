package scan

import (
	"iter"
	"math"
	"slices"
	"testing"

	"dustman/add"
	"dustman/api"
	"dustman/cells"
	"dustman/claim"
	"dustman/deque"
	"dustman/layout"
	"dustman/packet"
	"dustman/ranges"
)

const last = math.MaxUint64

// chart is a map of so many cells of each class, so many markers, deques of that
// room, and pieces of so many slots.
func chart(t *testing.T, all [5]int, markers, room, chunk int) *layout.Map {
	t.Helper()
	m, e := layout.New(layout.Config{Cells: all, Markers: markers, Mutators: 1, Deque: room, Chunk: chunk, Buffer: 1, Roots: 1, Sweep: 1})
	if e != 0 {
		t.Fatalf("a map of %v: %v", all, e)
	}
	return m
}

// task is that of a node, from a slot on.
func task(v, from int) uint64 { return uint64(v)<<32 + uint64(from) }

// node has a node's header and slots so in memory.
func node(m *layout.Map, l []uint64, v int, header uint64, slots ...uint64) {
	l[m.Header(v)] = header
	for i, w := range slots {
		l[m.Slot(v, i)] = w
	}
}

// Events, as they are told.
func further(v, from int) api.Event { return api.Event{Kind: 2, A: v, B: from} }
func slot(v, i int) api.Event       { return api.Event{Kind: 3, A: v, B: i} }
func claimed(v int) api.Event       { return api.Event{Kind: 1, A: v} }
func end(v, from int) api.Event     { return api.Event{Kind: 4, A: v, B: from} }

// quiet is so many steps of which nothing is told.
func quiet(n int) []api.Event { return make([]api.Event, n) }

// is asks that memory has those words.
func is(t *testing.T, s *cells.Store, want []uint64) {
	t.Helper()
	if got := s.All(); !slices.Equal(got, want) {
		t.Errorf("memory is %v, not %v", got, want)
	}
}

// goes does steps, of which none is the last one, and which tell those events.
func goes(t *testing.T, x *Machine, s *cells.Store, want ...api.Event) {
	t.Helper()
	for i, e := range want {
		count := s.Count()
		if x.Step(s) {
			t.Errorf("step %d is the last one", i)
		}
		if s.Count() != count+1 {
			t.Errorf("step %d did %d accesses", i, s.Count()-count)
		}
		for range 2 {
			if x.Event() != e {
				t.Errorf("step %d tells %v, not %v", i, x.Event(), e)
			}
		}
	}
}

// ended does the last step, which tells that event, and further ones behind it,
// which do nothing.
func ended(t *testing.T, x *Machine, s *cells.Store, want api.Event) {
	t.Helper()
	count := s.Count()
	if !x.Step(s) {
		t.Error("Step is false at the last one")
	}
	if s.Count() != count+1 {
		t.Errorf("the last step did %d accesses", s.Count()-count)
	}
	if x.Event() != want {
		t.Errorf("the last step tells %v, not %v", x.Event(), want)
	}
	stays(t, x, s)
}

// stays asks that a machine that is finished does nothing more.
func stays(t *testing.T, x *Machine, s *cells.Store) {
	t.Helper()
	l, count := s.All(), s.Count()
	for range 3 {
		if !x.Step(s) {
			t.Error("Step is false behind the last one")
		}
		if x.Event() != none() {
			t.Errorf("%v is told behind the last one", x.Event())
		}
	}
	if s.Count() != count || !slices.Equal(s.All(), l) {
		t.Error("Step did something behind the last one")
	}
}

// tells does all steps of a machine, and has those events that aren't none.
func tells(t *testing.T, x *Machine, s *cells.Store, want ...api.Event) {
	t.Helper()
	var got []api.Event
	for finished, steps := false, 0; !finished; steps++ {
		if steps > 1000 {
			t.Fatal("steps don't end")
		}
		finished = x.Step(s)
		if e := x.Event(); e != none() {
			got = append(got, e)
		}
	}
	if !slices.Equal(got, want) {
		t.Errorf("it tells %v, not %v", got, want)
	}
	stays(t, x, s)
}

// The chapter's example.
func TestTheExample(t *testing.T) {
	m := chart(t, [5]int{2, 1}, 1, 2, 1)
	l := m.First()
	node(m, l, 3, 2, 1, 2)
	s := cells.New(l...)
	x := New(m, 0, task(3, 0), 1)
	goes(t, x, s, none())
	goes(t, x, s, further(3, 1))
	goes(t, x, s, quiet(4)...)
	goes(t, x, s, slot(3, 0))
	goes(t, x, s, none(), none(), claimed(1))
	goes(t, x, s, quiet(4)...)
	ended(t, x, s, end(3, 0))
	l[m.Work()], l[m.Bottom(0)], l[m.Entry(0, 0)], l[m.Entry(0, 1)], l[m.Mark(1)] = 1, 2, task(3, 1), task(1, 0), 1
	is(t, s, l)
}

// P14.1, P14.2: what each step does, and that it does nothing else.
func TestStepByStep(t *testing.T) {
	m := chart(t, [5]int{3, 0, 1}, 2, 4, 2)
	for i := range 2 {
		l := m.First()
		node(m, l, 4, 4, 2, 3, 1, 1)
		l[m.Work()], l[m.Mark(1)], l[m.Mark(2)], l[m.Mark(3)] = 10, 6, 8, 6
		s := cells.New(l...)
		x := New(m, i, task(4, 1), 7)
		if x.Event() != none() {
			t.Error("something is told ahead of the first step")
		}
		is(t, s, l)
		goes(t, x, s, none()) // (1): slots 1 and 2
		is(t, s, l)
		goes(t, x, s, further(4, 3)) // (2)
		l[m.Work()] = 11
		is(t, s, l)
		goes(t, x, s, quiet(2)...)
		is(t, s, l)
		goes(t, x, s, none())
		l[m.Entry(i, 0)] = task(4, 3)
		is(t, s, l)
		goes(t, x, s, none())
		l[m.Bottom(i)] = 1
		is(t, s, l)
		goes(t, x, s, slot(4, 1), none()) // (3)
		is(t, s, l)
		goes(t, x, s, none())
		l[m.Work()] = 12
		is(t, s, l)
		goes(t, x, s, claimed(3))
		l[m.Mark(3)] = 7
		is(t, s, l)
		goes(t, x, s, quiet(4)...)
		l[m.Entry(i, 1)], l[m.Bottom(i)] = task(3, 0), 2
		is(t, s, l)
		goes(t, x, s, slot(4, 2), none(), none(), claimed(1))
		goes(t, x, s, quiet(4)...)
		l[m.Work()], l[m.Mark(1)], l[m.Entry(i, 2)], l[m.Bottom(i)] = 13, 7, task(1, 0), 3
		is(t, s, l)
		ended(t, x, s, end(4, 1)) // (4)
		l[m.Work()] = 12
		is(t, s, l)
	}
}

// P14.1: a node that is marked already has no task.
func TestMarkedAlready(t *testing.T) {
	m := chart(t, [5]int{3, 0, 1}, 1, 4, 4)
	for _, mark := range []uint64{7, 8, 1 << 63, last} {
		l := m.First()
		node(m, l, 4, 3, 1, 4, 1)
		l[m.Mark(1)], l[m.Mark(4)] = mark, mark
		s := cells.New(l...)
		x := New(m, 0, task(4, 0), 7)
		goes(t, x, s, none(), slot(4, 0), none(), slot(4, 1), none(), slot(4, 2), none())
		is(t, s, l)
		ended(t, x, s, end(4, 0))
		l[m.Work()] = last
		is(t, s, l)
	}
}

// P14.1: a node that others mark between the steps is theirs.
func TestClaimIsLost(t *testing.T) {
	m := chart(t, [5]int{3, 0, 1}, 1, 4, 4)
	l := m.First()
	node(m, l, 4, 2, 1, 2)
	s := cells.New(l...)
	x := New(m, 0, task(4, 0), 7)
	goes(t, x, s, none(), slot(4, 0), none(), none())
	s.Put(m.Mark(1), 7)
	goes(t, x, s, none()) // the swap is false
	if w := s.Load(m.Work()); w != 1 {
		t.Errorf("Work is %d", w)
	}
	goes(t, x, s, none()) // and is taken back
	if w := s.Load(m.Work()); w != 0 {
		t.Errorf("Work is %d", w)
	}
	goes(t, x, s, slot(4, 1), none(), none(), claimed(2))
	goes(t, x, s, quiet(4)...)
	ended(t, x, s, end(4, 0))
	l[m.Mark(1)], l[m.Mark(2)], l[m.Entry(0, 0)], l[m.Bottom(0)] = 7, 7, task(2, 0), 1
	is(t, s, l)
}

// P14.1: where the deque is full, tasks come into the pool.
func TestTasksSpill(t *testing.T) {
	m := chart(t, [5]int{3, 0, 1}, 1, 2, 2)
	l := m.First()
	node(m, l, 4, 3, 1, 2, 3)
	l[m.Bottom(0)] = 2
	s := cells.New(l...)
	x := New(m, 0, task(4, 0), 7)
	goes(t, x, s, none(), further(4, 2))
	goes(t, x, s, quiet(2+8)...)
	goes(t, x, s, slot(4, 0), none(), none(), claimed(1))
	goes(t, x, s, quiet(2+8)...)
	s.Put(m.Top(0), 1) // one was stolen: there is room again
	goes(t, x, s, slot(4, 1), none(), none(), claimed(2))
	goes(t, x, s, quiet(4)...)
	ended(t, x, s, end(4, 0))
	if held, want := packet.Held(m, s.All()), []uint64{task(1, 0), task(4, 2)}; !slices.Equal(held, want) {
		t.Errorf("Held is %v, not %v", held, want)
	}
	if w, at := s.Load(m.Entry(0, 0)), s.Load(m.Bottom(0)); w != task(2, 0) || at != 3 {
		t.Errorf("the entry is %d, and Bottom %d", w, at)
	}
	if w := s.Load(m.Work()); w != 2 {
		t.Errorf("Work is %d", w)
	}
}

// P14.1: a task waits for a spare packet, and goes on with what it was at.
func TestTaskWaitsForASparePacket(t *testing.T) {
	m := chart(t, [5]int{1, 1}, 1, 2, 1)
	l := m.First()
	node(m, l, 2, 2, 1, 1)
	l[m.Bottom(0)] = 2
	spare := l[m.Spare()]
	l[m.Spare()] = 0
	s := cells.New(l...)
	x := New(m, 0, task(2, 0), 7)
	goes(t, x, s, none(), further(2, 1))
	goes(t, x, s, quiet(2+50)...)
	s.Put(m.Spare(), spare)
	goes(t, x, s, quiet(8)...)
	goes(t, x, s, slot(2, 0))
}

// seen is the events of slots from one on, ahead of another, and of what is
// ahead of them and behind them.
func seen(v, from, to, n, of int) []api.Event {
	var l []api.Event
	if to < n {
		l = append(l, further(v, to))
	}
	for i := from; i < to; i++ {
		l = append(l, slot(v, i))
	}
	return append(l, end(v, of))
}

// P14.1: Header as a number from 0 on, or Room, whatever is less; in each class.
func TestHeaderAndRoom(t *testing.T) {
	m := chart(t, [5]int{2, 2, 2, 2, 2}, 1, 2, 16)
	headers := []uint64{0, 1, 2, 3, 4, 5, 7, 8, 9, 15, 16, 17, 1 << 31, 1 << 32, 1<<32 + 1, math.MaxInt64, 1 << 63, 1<<63 + 1, last - 1, last}
	for v := 1; v <= m.Nodes(); v++ {
		for _, header := range headers {
			l := m.First()
			l[m.Header(v)] = header
			n := 1 << ((v - 1) / 2)
			if header < uint64(n) {
				n = int(header)
			}
			s := cells.New(l...)
			tells(t, New(m, 0, task(v, 0), 1), s, seen(v, 0, n, n, 0)...)
			l[m.Work()] = last
			is(t, s, l)
		}
	}
}

// P14.1: the piece from the task's slot on, by Chunk.
func TestPieces(t *testing.T) {
	for chunk := 1; chunk <= 16; chunk++ {
		m := chart(t, [5]int{1, 0, 0, 0, 1}, 1, 2, chunk)
		for n := 0; n <= 16; n++ {
			for _, of := range []int{0, 1, 2, 3, 5, 7, 8, 14, 15, 16, 17, 1000, math.MaxInt32, 1 << 31, math.MaxUint32} {
				l := m.First()
				node(m, l, 2, uint64(n))
				from := min(of, n)
				to := min(from+chunk, n)
				s := cells.New(l...)
				tells(t, New(m, 0, task(2, of), 1), s, seen(2, from, to, n, of)...)
				l[m.Work()] = last
				if to < n {
					l[m.Work()], l[m.Entry(0, 0)], l[m.Bottom(0)] = 0, task(2, to), 1
				}
				is(t, s, l)
			}
		}
	}
}

// P14.1: the pieces that come of a node's first task have each slot once.
func TestTasksOfANode(t *testing.T) {
	for chunk := 1; chunk <= 16; chunk++ {
		m := chart(t, [5]int{1, 0, 0, 0, 1}, 1, 2, chunk)
		for n := 0; n <= 16; n++ {
			l := m.First()
			node(m, l, 2, uint64(n))
			l[m.Work()] = 1
			s := cells.New(l...)
			at, tasks := 0, 0
			for next, more := task(2, 0), true; more && tasks < 20; tasks++ {
				of := int(next % (1 << 32))
				to := min(at+chunk, n)
				tells(t, New(m, 0, next, 1), s, seen(2, at, to, n, of)...)
				at = to
				x := deque.Pop(add.Ends(m, 0))
				for !x.Step(s) {
				}
				result, task := x.Result()
				next, more = task, result == deque.Done
			}
			if w := s.Load(m.Work()); at != n || tasks != ranges.Count(n, chunk) || w != 0 {
				t.Errorf("of %d slots by %d there were %d, in %d tasks; Work is %d", n, chunk, at, tasks, w)
			}
		}
	}
}

// P14.1: what a slot has is a node's number, or nothing.
func TestWhatASlotHas(t *testing.T) {
	m := chart(t, [5]int{3, 0, 1}, 1, 4, 4)
	for _, w := range []uint64{0, 5, 6, 99, 1<<31 + 1, math.MaxUint32, 1 << 32, 1<<32 + 1, 1<<32 + 4, math.MaxInt64, 1 << 63, 1<<63 + 1, last - 3, last - 1, last} {
		l := m.First()
		node(m, l, 4, 2, w, w)
		s := cells.New(l...)
		x := New(m, 0, task(4, 0), 7)
		goes(t, x, s, none(), slot(4, 0), slot(4, 1))
		is(t, s, l)
		ended(t, x, s, end(4, 0))
	}
	for w := 1; w <= 4; w++ { // the node itself is one, too
		l := m.First()
		node(m, l, 4, 1, uint64(w))
		s := cells.New(l...)
		x := New(m, 0, task(4, 0), 7)
		goes(t, x, s, none(), slot(4, 0), none(), none(), claimed(w))
		goes(t, x, s, quiet(4)...)
		ended(t, x, s, end(4, 0))
		l[m.Mark(w)], l[m.Entry(0, 0)], l[m.Bottom(0)] = 7, task(w, 0), 1
		is(t, s, l)
	}
}

// P14.1: a slot is looked at at its step, and a header at the first one.
func TestWhenWordsAreSeen(t *testing.T) {
	m := chart(t, [5]int{3, 0, 1}, 1, 4, 4)
	l := m.First()
	node(m, l, 4, 0, 1, 1, 1, 1)
	s := cells.New(l...)
	x := New(m, 0, task(4, 0), 7)
	s.Put(m.Header(4), 3)
	goes(t, x, s, none())
	s.Put(m.Header(4), 0)
	s.Put(m.Slot(4, 0), 0)
	goes(t, x, s, slot(4, 0))
	s.Put(m.Slot(4, 0), 3)
	s.Put(m.Slot(4, 1), 2)
	goes(t, x, s, slot(4, 1))
	s.Put(m.Slot(4, 1), 1)
	goes(t, x, s, none(), none(), claimed(2))
	goes(t, x, s, quiet(4)...)
	s.Put(m.Slot(4, 2), 0)
	goes(t, x, s, slot(4, 2))
	s.Put(m.Header(4), 4)
	ended(t, x, s, end(4, 0))
}

// P14.1: marks and cycles are numbers from 0 to 2^64 - 1.
func TestMarksAndCycles(t *testing.T) {
	m := chart(t, [5]int{2}, 1, 2, 1)
	edges := []uint64{0, 1, 2, 1 << 32, math.MaxInt64, 1 << 63, last - 1, last}
	for _, mark := range edges {
		for _, cycle := range edges {
			l := m.First()
			node(m, l, 2, 1, 1)
			l[m.Mark(1)] = mark
			s := cells.New(l...)
			want := []api.Event{slot(2, 0), end(2, 0)}
			l[m.Work()] = last
			if mark < cycle {
				want = slices.Insert(want, 1, claimed(1))
				l[m.Work()], l[m.Mark(1)], l[m.Entry(0, 0)], l[m.Bottom(0)] = 0, cycle, task(1, 0), 1
			}
			tells(t, New(m, 0, task(2, 0), cycle), s, want...)
			is(t, s, l)
		}
	}
}

// P14.1: of no node all places are -1: it has no slots.
func TestNoNode(t *testing.T) {
	m := chart(t, [5]int{3, 0, 1}, 1, 2, 1)
	for _, v := range []int{0, 5, 6, 99, math.MaxInt32, 1 << 31, math.MaxUint32 - 1, math.MaxUint32} {
		for _, of := range []int{0, 1, 7, 1 << 31, math.MaxUint32} {
			l := make([]uint64, m.Len())
			for i := range l {
				l[i] = 1
			}
			s := cells.New(l...)
			x := New(m, 0, task(v, of), 7)
			goes(t, x, s, none())
			is(t, s, l)
			ended(t, x, s, end(v, of))
			l[m.Work()] = 0
			is(t, s, l)
		}
	}
}

// Without such a marker what is done is free, but it ends.
func TestNoMarker(t *testing.T) {
	m := chart(t, [5]int{3, 0, 1}, 2, 2, 1)
	for _, i := range []int{math.MinInt, -1 << 32, -1, 2, 3, 4, 99, 1 << 32, math.MaxInt} {
		for _, v := range []int{0, 3, 4, 5} {
			l := m.First()
			node(m, l, 4, 4, 1, 2, 3, 4)
			s := cells.New(l...)
			x := New(m, i, task(v, 0), 7)
			for steps := 0; !x.Step(s); steps++ {
				if steps > 1000 {
					t.Fatal("steps don't end")
				}
			}
			x.Event()
			stays(t, x, s)
		}
	}
}

// P14.2
func TestNilMachine(t *testing.T) {
	m := chart(t, [5]int{1}, 1, 2, 1)
	s := cells.New(m.First()...)
	var x *Machine
	if x.Event() != none() {
		t.Error("nil tells something")
	}
	stays(t, x, s)
	stays(t, x, nil)
}

// P14.2
func TestNilMap(t *testing.T) {
	s := cells.New(5, 6, 7)
	for _, i := range []int{math.MinInt, -1, 0, 1, math.MaxInt} {
		for _, w := range []uint64{0, 1, task(1, 0), task(2, 3), last} {
			x := New(nil, i, w, 7)
			if x == nil {
				t.Fatal("there is no machine")
			}
			if x.Event() != none() {
				t.Error("something is told ahead of the first step")
			}
			stays(t, x, s)
			stays(t, x, nil)
		}
	}
	is(t, s, []uint64{5, 6, 7})
}

// In nil memory, and in one without the words, each step ends.
func TestMemoryWithoutWords(t *testing.T) {
	m := chart(t, [5]int{3, 0, 1}, 1, 2, 1)
	for _, s := range []*cells.Store{nil, cells.New(), cells.New(m.First()[:m.Header(1)]...)} {
		x := New(m, 0, task(4, 0), 7)
		if x.Step(s) || x.Event() != none() {
			t.Error("the first step isn't one that sees no slots")
		}
		if !x.Step(s) || x.Event() != end(4, 0) {
			t.Error("the second step isn't the last one")
		}
		stays(t, x, s)
	}
	l := m.First()
	node(m, l, 4, 4)
	s := cells.New(l[:m.Slot(4, 1)]...) // slot 1 and those behind it aren't there
	x := New(m, 0, task(4, 1), 7)
	goes(t, x, s, none(), further(4, 2))
	goes(t, x, s, quiet(4)...)
	goes(t, x, s, slot(4, 1))
	ended(t, x, s, end(4, 1))
}

// series tells the same numbers each time, each from 0 on and below an end.
type series uint64

func (s *series) below(end int) int {
	*s = *s*6364136223846793005 + 1442695040888963407
	return int(uint64(*s)>>33) % end
}

// saying is a machine as the chapter's words have it, by the layers below.
type saying struct {
	m     *layout.Map
	s     *cells.Store
	i     int
	task  uint64
	cycle uint64
}

// put is the steps that put a task somewhere; false: no more steps are asked for.
func (x *saying) put(task uint64, yield func(api.Event, bool) bool) bool {
	a := add.New(x.m, x.i, task)
	for finished := false; !finished; {
		finished = a.Step(x.s)
		if !yield(none(), false) {
			return false
		}
	}
	return true
}

// try is the steps that try to mark a node, and, if that is won, put its task
// somewhere; false: no more steps are asked for.
func (x *saying) try(w uint64, yield func(api.Event, bool) bool) bool {
	c := claim.New(x.m, int(w), x.cycle)
	for finished := false; !finished; {
		finished = c.Step(x.s)
		e := none()
		if finished && c.Won() {
			e = claimed(int(w))
		}
		if !yield(e, false) {
			return false
		}
	}
	return !c.Won() || x.put(w<<32, yield)
}

// steps is its steps, one by one, each ahead of a yield that tells its event, and
// whether it is the last one.
func (x *saying) steps() iter.Seq2[api.Event, bool] {
	return func(yield func(api.Event, bool) bool) {
		v, of := int(x.task>>32), int(x.task&math.MaxUint32)
		n := int(min(x.s.Load(x.m.Header(v)), uint64(x.m.Room(v))))
		p, behind := ranges.Next(n, of, x.m.Config().Chunk)
		if !yield(none(), false) {
			return
		}
		if behind {
			x.s.Add(x.m.Work(), 1)
			if !yield(further(v, p.To), false) || !x.put(task(v, p.To), yield) {
				return
			}
		}
		for i := p.From; i < p.To; i++ {
			w := x.s.Load(x.m.Slot(v, i))
			if !yield(slot(v, i), false) {
				return
			}
			if 1 <= w && w <= uint64(x.m.Nodes()) && !x.try(w, yield) {
				return
			}
		}
		x.s.Add(x.m.Work(), 1<<64-1)
		yield(end(v, of), true)
	}
}

// P14.1, P14.2: against the chapter's words, whatever stands in memory, and
// whatever others do between the steps.
func TestAgainstTheWords(t *testing.T) {
	n := series(14)
	few := []uint64{0, 1, 2, 3, 4, 5, 6, 7, 9, 1<<32 + 1, 7<<32 + 2, math.MaxUint32, 1<<63 - 1, 1 << 63, last - 1, last}
	slots := []int{0, 0, 0, 1, 2, 3, 4, 5, 1 << 31, math.MaxUint32}
	kinds := [15]int{}
	for range 5000 {
		m := chart(t, [5]int{2, 1, 1, 1}, 2, 2+n.below(2), 1+n.below(4))
		v := 1 + n.below(5)
		places := []int{
			m.Work(), m.Pool(), m.Spare(), m.Top(0), m.Bottom(0), m.Bottom(1), m.Link(1), m.Header(v), m.State(v), m.Len() - 1, -1,
			m.Mark(1), m.Mark(2), m.Mark(3), m.Mark(4), m.Mark(5), m.Slot(v, 0), m.Slot(v, 1), m.Slot(v, 2), m.Slot(v, 7),
		}
		l := m.First()
		for i := range l {
			if n.below(5) == 0 || i >= m.Header(1) && n.below(2) == 0 {
				l[i] = few[n.below(len(few))]
			}
		}
		if n.below(8) == 0 {
			l = l[:n.below(len(l))]
		}
		if n.below(20) == 0 {
			v = []int{0, 6, math.MaxUint32}[n.below(3)]
		}
		a, b := cells.New(l...), cells.New(l...)
		want := &saying{m: m, s: b, i: n.below(2), task: task(v, slots[n.below(len(slots))]), cycle: few[n.below(len(few))]}
		x := New(m, want.i, want.task, want.cycle)
		next, stop := iter.Pull2(want.steps())
		finished := false
		for step := range 80 {
			if n.below(4) == 0 {
				at, word := places[n.below(len(places))], few[n.below(len(few))]
				a.Put(at, word)
				b.Put(at, word)
			}
			e, isLast, _ := next()
			finished = finished || isLast
			if x.Step(a) != finished || x.Event() != e {
				t.Fatalf("marker %d, task %x, cycle %d, step %d: it tells %v, not %v", want.i, want.task, want.cycle, step, x.Event(), e)
			}
			if !slices.Equal(a.All(), b.All()) || a.Count() != b.Count() {
				t.Fatalf("marker %d, task %x, cycle %d, step %d: memory is %v, not %v; %d accesses, not %d", want.i, want.task, want.cycle, step, a.All(), b.All(), a.Count(), b.Count())
			}
			kinds[e.Kind]++
		}
		stop()
	}
	for _, kind := range []int{api.EvClaim, api.EvRange, api.EvSlot, api.EvEnd} {
		if kinds[kind] < 200 {
			t.Errorf("there were %d of kind %d alone", kinds[kind], kind)
		}
	}
}

// run is markers that do tasks, and find these in deques and in the pool.
type run struct {
	m     *layout.Map
	s     *cells.Store
	cycle uint64
	scans []*Machine // each marker's
	work  []uint64   // what each one's task added to Work so far
	made  []uint64   // what it should add, but for the 1 less of its end
	log   []api.Event
}

// from is a run in such memory, with one node marked, whose task is in the deque
// of marker 0.
func from(m *layout.Map, l []uint64, root int, cycle uint64) *run {
	l[m.Mark(root)], l[m.Work()] = cycle, 1
	l[m.Entry(0, 0)], l[m.Bottom(0)] = task(root, 0), 1
	markers := m.Config().Markers
	return &run{
		m: m, s: cells.New(l...), cycle: cycle,
		scans: make([]*Machine, markers), work: make([]uint64, markers), made: make([]uint64, markers),
		log: []api.Event{claimed(root)},
	}
}

// find is a task that a marker finds: in its deque, in the pool, or in another
// one's deque.
func (r *run) find(i, draw int) (uint64, bool) {
	pop := deque.Pop(add.Ends(r.m, i))
	for !pop.Step(r.s) {
	}
	if result, w := pop.Result(); result == deque.Done {
		return w, true
	}
	take := packet.Take(r.m)
	for !take.Step(r.s) {
	}
	if p := take.Packet(); p != 0 {
		w := r.s.Load(r.m.Task(p, 0))
		for back := packet.Back(r.m, p); !back.Step(r.s); {
		}
		return w, true
	}
	steal := deque.Steal(add.Ends(r.m, draw))
	for !steal.Step(r.s) {
	}
	result, w := steal.Result()
	return w, result == deque.Done
}

// step does a step of a marker, which looks for a task, if it has none.
func (r *run) step(t *testing.T, i, draw int) {
	t.Helper()
	if r.scans[i] == nil {
		if w, ok := r.find(i, draw); ok {
			r.scans[i], r.work[i], r.made[i] = New(r.m, i, w, r.cycle), 0, 0
		}
		return
	}
	work := r.s.Load(r.m.Work())
	finished := r.scans[i].Step(r.s)
	r.work[i] += r.s.Load(r.m.Work()) - work
	e := r.scans[i].Event()
	if e != none() {
		r.log = append(r.log, e)
	}
	if e.Kind == api.EvClaim || e.Kind == api.EvRange {
		r.made[i]++
	}
	if finished != (e.Kind == api.EvEnd) {
		t.Fatalf("it tells %v, and finished is %v", e, finished)
	}
	if finished {
		if r.work[i]+1 != r.made[i] {
			t.Fatalf("a task that made %d added %d", r.made[i], int64(r.work[i]))
		}
		r.scans[i] = nil
	}
}

// tasks is how many there are.
func (r *run) tasks() int {
	tasks := len(packet.Held(r.m, r.s.All()))
	for i, x := range r.scans {
		if x != nil {
			tasks++
		}
		tasks += int(r.s.Load(r.m.Bottom(i)) - r.s.Load(r.m.Top(i)))
	}
	return tasks
}

// slotsOf is what a node has in its slots.
func (r *run) slotsOf(v int) []uint64 {
	n := min(r.s.Load(r.m.Header(v)), uint64(r.m.Room(v)))
	var l []uint64
	for i := range int(n) {
		l = append(l, r.s.Load(r.m.Slot(v, i)))
	}
	return l
}

// reach is all nodes that can be come to from one.
func (r *run) reach(root int) []int {
	l := []int{root}
	for at := 0; at < len(l); at++ {
		for _, w := range r.slotsOf(l[at]) {
			if 1 <= w && w <= uint64(r.m.Nodes()) && !slices.Contains(l, int(w)) {
				l = append(l, int(w))
			}
		}
	}
	slices.Sort(l)
	return l
}

// all asks what was done when nothing is left.
func (r *run) all(t *testing.T, root int) {
	t.Helper()
	told := map[api.Event]int{}
	kinds := [15]int{}
	for _, e := range r.log {
		told[e]++
		kinds[e.Kind]++
		if told[e] > 1 {
			t.Errorf("%v is told twice", e)
		}
	}
	nodes, slots, pieces := r.reach(root), 0, 0
	for v := 1; v <= r.m.Nodes(); v++ {
		marked := r.s.Load(r.m.Mark(v)) == r.cycle
		if want := slices.Contains(nodes, v); marked != want || told[claimed(v)] == 1 != want {
			t.Errorf("node %d is marked: %v", v, marked)
		}
	}
	for _, v := range nodes {
		n := len(r.slotsOf(v))
		slots += n
		for i := range n {
			if told[slot(v, i)] != 1 {
				t.Errorf("slot %d of node %d wasn't looked at", i, v)
			}
		}
		pieces += ranges.Count(n, r.m.Config().Chunk)
	}
	if kinds[api.EvSlot] != slots || kinds[api.EvEnd] != pieces || kinds[api.EvRange] != pieces-len(nodes) {
		t.Errorf("%d slots, %d tasks, %d further ones; not %d, %d, %d", kinds[api.EvSlot], kinds[api.EvEnd], kinds[api.EvRange], slots, pieces, pieces-len(nodes))
	}
}

// P14.3: in whatever order steps come, Work is as many as were marked, and further
// pieces made, less those that ended; never less than there are tasks; and all
// that can be come to is marked, once.
func TestWorkInSomeOrders(t *testing.T) {
	n := series(141)
	for range 400 {
		markers := 1 + n.below(4)
		m := chart(t, [5]int{n.below(4), n.below(4), n.below(3), n.below(3), 1 + n.below(2)}, markers, 2+n.below(3), 1+n.below(5))
		l := m.First()
		for v := 1; v <= m.Nodes(); v++ {
			l[m.Header(v)] = uint64(n.below(m.Room(v) + 2))
			for i := range m.Room(v) {
				l[m.Slot(v, i)] = uint64(n.below(m.Nodes() + 3))
			}
			l[m.Mark(v)] = uint64(n.below(5))
		}
		root := 1 + n.below(m.Nodes())
		r := from(m, l, root, 5)
		steps := 0
		for r.tasks() > 0 {
			who := n.below(markers)
			for range 1 + n.below(4) { // as if the others slept
				r.step(t, who, n.below(markers))
				if work := r.s.Load(m.Work()); work < uint64(r.tasks()) {
					t.Fatalf("Work is %d, with %d tasks", work, r.tasks())
				}
			}
			if steps++; steps > 100000 {
				t.Fatal("tasks don't end")
			}
		}
		if work := r.s.Load(m.Work()); work != 0 {
			t.Errorf("Work is %d", work)
		}
		r.all(t, root)
		if t.Failed() {
			t.FailNow()
		}
	}
}

// P14.1, P14.2: each machine is told of its own steps alone.
func TestEachMachineIsItsOwn(t *testing.T) {
	m := chart(t, [5]int{2, 1}, 2, 2, 2)
	l := m.First()
	node(m, l, 3, 2, 1, 2)
	s := cells.New(l...)
	x, y := New(m, 0, task(3, 0), 7), New(m, 1, task(3, 1), 7)
	goes(t, x, s, none(), slot(3, 0), none())
	goes(t, y, s, none(), slot(3, 1), none(), none(), claimed(2))
	if x.Event() != none() {
		t.Errorf("the first one tells %v", x.Event())
	}
	goes(t, x, s, none(), claimed(1))
	if y.Event() != claimed(2) {
		t.Errorf("the second one tells %v", y.Event())
	}
	goes(t, y, s, quiet(4)...)
	goes(t, x, s, quiet(4)...)
	goes(t, x, s, slot(3, 1))
	ended(t, y, s, end(3, 1))
	goes(t, x, s, none())
	ended(t, x, s, end(3, 0))
	l[m.Work()], l[m.Mark(1)], l[m.Mark(2)] = 0, 7, 7
	l[m.Entry(0, 0)], l[m.Bottom(0)], l[m.Entry(1, 0)], l[m.Bottom(1)] = task(1, 0), 1, task(2, 0), 1
	is(t, s, l)
}
