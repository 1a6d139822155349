package add

import (
	"math"
	"slices"
	"testing"

	"dustman/cells"
	"dustman/deque"
	"dustman/layout"
	"dustman/packet"
)

const last = math.MaxUint64

// chart is a map of so many nodes of a slot each, so many markers, and deques of
// that room.
func chart(t *testing.T, nodes, markers, room int) *layout.Map {
	t.Helper()
	m, e := layout.New(layout.Config{Cells: [5]int{nodes}, Markers: markers, Mutators: 1, Deque: room, Chunk: 1, Buffer: 1, Roots: 1, Sweep: 1})
	if e != 0 || m.Packets() != 2*nodes+2*markers+1 {
		t.Fatalf("a map of %d nodes and %d markers: %v, %d packets", nodes, markers, e, m.Packets())
	}
	return m
}

// is asks that memory has those words.
func is(t *testing.T, s *cells.Store, want []uint64) {
	t.Helper()
	if got := s.All(); !slices.Equal(got, want) {
		t.Errorf("memory is %v, not %v", got, want)
	}
}

// goes does so many steps, of which none is the last one, and behind each of
// which Spilled is as it is told.
func goes(t *testing.T, x *Machine, s *cells.Store, steps int, spilled bool) {
	t.Helper()
	for range steps {
		count := s.Count()
		if x.Step(s) {
			t.Error("Step is true ahead of the last one")
		}
		if s.Count() != count+1 {
			t.Errorf("Step did %d accesses", s.Count()-count)
		}
		if x.Spilled() != spilled {
			t.Errorf("Spilled is %v", x.Spilled())
		}
	}
}

// ended does the last step, and further ones behind it, which do nothing.
func ended(t *testing.T, x *Machine, s *cells.Store, spilled bool) {
	t.Helper()
	count := s.Count()
	if !x.Step(s) {
		t.Error("Step is false at the last one")
	}
	if s.Count() != count+1 {
		t.Errorf("the last Step did %d accesses", s.Count()-count)
	}
	stays(t, x, s, spilled)
}

// stays asks that a machine that is finished does nothing more.
func stays(t *testing.T, x *Machine, s *cells.Store, spilled bool) {
	t.Helper()
	l, count := s.All(), s.Count()
	if x.Spilled() != spilled {
		t.Errorf("Spilled is %v", x.Spilled())
	}
	for range 3 {
		if !x.Step(s) {
			t.Error("Step is false behind the last one")
		}
		if x.Spilled() != spilled {
			t.Errorf("Spilled is %v behind the last one", x.Spilled())
		}
	}
	if s.Count() != count || !slices.Equal(s.All(), l) {
		t.Error("Step did something behind the last one")
	}
}

// pushes does all steps of a machine whose deque has room.
func pushes(t *testing.T, x *Machine, s *cells.Store) {
	t.Helper()
	goes(t, x, s, 3, false)
	ended(t, x, s, false)
}

// spills does all steps of a machine whose deque is full, if nobody else steps.
func spills(t *testing.T, x *Machine, s *cells.Store) {
	t.Helper()
	goes(t, x, s, 1, false)
	goes(t, x, s, 8, true)
	ended(t, x, s, true)
}

// holds asks which tasks packets of the pool have.
func holds(t *testing.T, m *layout.Map, s *cells.Store, want ...uint64) {
	t.Helper()
	if got := packet.Held(m, s.All()); !slices.Equal(got, want) {
		t.Errorf("Held is %v, not %v", got, want)
	}
}

// The chapter's example.
func TestTheExample(t *testing.T) {
	m := chart(t, 1, 1, 2)
	s := cells.New(m.First()...)
	pushes(t, New(m, 0, 7), s)
	pushes(t, New(m, 0, 8), s)
	holds(t, m, s)
	spills(t, New(m, 0, 9), s)
	holds(t, m, s, 9)
}

// P13.1
func TestEnds(t *testing.T) {
	for markers := 1; markers <= 4; markers++ {
		for room := 2; room <= 8; room++ {
			m := chart(t, 2, markers, room)
			for i := range markers {
				at := 6 + 1 + 5 + i*(2+room) // behind the single words, Ack, and the heads
				want := deque.Ends{Top: at, Bottom: at + 1, Entry: at + 2, Room: room}
				if got := Ends(m, i); got != want {
					t.Errorf("Ends of marker %d is %v, not %v", i, got, want)
				}
			}
		}
	}
}

// wrong are no markers of a map of that many.
func wrong(markers int) []int {
	return []int{math.MinInt, math.MinInt + 1, -1 << 32, -1<<32 + 1, -2, -1, markers, markers + 1, 5, 99, 1 << 32, 1<<32 + 1, math.MaxInt - 1, math.MaxInt}
}

// P13.1: where there is no marker there are no places; Deque is the configuration's.
func TestEndsOfNone(t *testing.T) {
	for markers := 1; markers <= 4; markers++ {
		m := chart(t, 1, markers, 3)
		for _, i := range wrong(markers) {
			if got, want := Ends(m, i), (deque.Ends{Top: -1, Bottom: -1, Entry: -1, Room: 3}); got != want {
				t.Errorf("of %d markers Ends of %d is %v", markers, i, got)
			}
		}
	}
	for _, i := range append(wrong(0), 0) {
		if got, want := Ends(nil, i), (deque.Ends{Top: -1, Bottom: -1, Entry: -1}); got != want {
			t.Errorf("without a map Ends of %d is %v", i, got)
		}
	}
}

// P13.1, P13.2: what each step does where there is room.
func TestPushStepByStep(t *testing.T) {
	m := chart(t, 1, 2, 2)
	for i := range 2 {
		for _, task := range []uint64{0, 1, 77, 1 << 32, 1 << 63, last} {
			l := m.First()
			l[m.Top(i)], l[m.Bottom(i)], l[m.Entry(i, 0)], l[m.Entry(i, 1)] = 4, 5, 50, 51
			s := cells.New(l...)
			x := New(m, i, task)
			is(t, s, l)
			goes(t, x, s, 2, false)
			is(t, s, l)
			goes(t, x, s, 1, false)
			l[m.Entry(i, 1)] = task
			is(t, s, l)
			ended(t, x, s, false)
			l[m.Bottom(i)] = 6
			is(t, s, l)
		}
	}
}

// P13.1, P13.2: what each step does where the deque is full.
func TestSpillStepByStep(t *testing.T) {
	m := chart(t, 1, 2, 2)
	for i := range 2 {
		for _, task := range []uint64{0, 1, 77, 1 << 32, 1 << 63, last} {
			l := m.First()
			l[m.Top(i)], l[m.Bottom(i)], l[m.Entry(i, 0)], l[m.Entry(i, 1)] = 4, 6, 50, 51
			l[m.Task(1, 0)], l[m.Task(1, 1)], l[m.Many(1)] = 60, 61, 3 // what an earlier one left there
			s := cells.New(l...)
			x := New(m, i, task)
			goes(t, x, s, 1, false)
			goes(t, x, s, 3, true)
			is(t, s, l)
			goes(t, x, s, 1, true)
			l[m.Spare()] = 1<<32 + 2
			is(t, s, l)
			goes(t, x, s, 1, true)
			l[m.Task(1, 0)] = task
			is(t, s, l)
			goes(t, x, s, 1, true)
			l[m.Many(1)] = 1
			is(t, s, l)
			goes(t, x, s, 1, true)
			is(t, s, l)
			goes(t, x, s, 1, true)
			l[m.Link(1)] = 0
			is(t, s, l)
			ended(t, x, s, true)
			l[m.Pool()] = 1<<32 + 1
			is(t, s, l)
			holds(t, m, s, task)
		}
	}
}

// P13.1: each deque has as many as Deque tells, and spills from there on.
func TestEachRoomIsFull(t *testing.T) {
	for room := 2; room <= 8; room++ {
		m := chart(t, 1, 4, room)
		s := cells.New(m.First()...)
		var held []uint64
		for task := range uint64(room + 2) {
			for i := range 2 { // two of the markers, one behind the other
				if int(task) < room {
					pushes(t, New(m, i+1, 10*task+uint64(i)), s)
				} else {
					spills(t, New(m, i+1, 10*task+uint64(i)), s)
					held = append([]uint64{10*task + uint64(i)}, held...)
				}
			}
		}
		holds(t, m, s, held...)
		for i := range 4 {
			want := uint64(0)
			if i == 1 || i == 2 {
				want = uint64(room)
			}
			if got := s.Load(m.Bottom(i)); got != want {
				t.Errorf("Bottom of marker %d is %d, not %d", i, got, want)
			}
		}
		for j := range room {
			if a, b := s.Load(m.Entry(1, j)), s.Load(m.Entry(2, j)); a != uint64(10*j) || b != uint64(10*j+1) {
				t.Errorf("entries %d are %d and %d", j, a, b)
			}
		}
	}
}

// P13.1: whether it is full is seen at the second step, and not again.
func TestFullIsSeenOnce(t *testing.T) {
	m := chart(t, 1, 1, 2)
	full := m.First()
	full[m.Bottom(0)] = 2

	s := cells.New(full...)
	x := New(m, 0, 7)
	s.Put(m.Top(0), 1) // stolen ahead of the first step
	pushes(t, x, s)

	s = cells.New(full...)
	x = New(m, 0, 7)
	goes(t, x, s, 1, false)
	s.Put(m.Top(0), 1) // stolen ahead of the second step
	goes(t, x, s, 2, false)
	ended(t, x, s, false)

	s = cells.New(full...)
	x = New(m, 0, 7)
	goes(t, x, s, 1, false)
	goes(t, x, s, 1, true)
	s.Put(m.Top(0), 2) // stolen behind it: it spills all the same
	goes(t, x, s, 7, true)
	ended(t, x, s, true)
	holds(t, m, s, 7)

	s = cells.New(m.First()...)
	x = New(m, 0, 7)
	goes(t, x, s, 2, false)
	s.Put(m.Bottom(0), 2) // full behind it: it is put all the same
	goes(t, x, s, 1, false)
	ended(t, x, s, false)
	holds(t, m, s)
}

// P13.1: where there is no spare packet it looks again, till there is one.
func TestSpillWaitsForASparePacket(t *testing.T) {
	m := chart(t, 1, 1, 2)
	s := cells.New(m.First()...)
	for task := range uint64(2 + m.Packets()) {
		if x := New(m, 0, task); task < 2 {
			pushes(t, x, s)
		} else {
			spills(t, x, s)
		}
	}
	l := s.All()
	x := New(m, 0, 99)
	goes(t, x, s, 1, false)
	goes(t, x, s, 50, true)
	is(t, s, l)
	for _, y := range []*packet.Machine{packet.Take(m), packet.Back(m, m.Packets())} {
		for !y.Step(s) {
		}
	}
	goes(t, x, s, 7, true)
	ended(t, x, s, true)
	holds(t, m, s, 99, 5, 4, 3, 2)
}

// P13.1: others are ahead at the spare ones and at the pool.
func TestSpillIsTriedAgain(t *testing.T) {
	m := chart(t, 1, 2, 2)
	l := m.First()
	l[m.Bottom(0)], l[m.Bottom(1)] = 2, 2
	s := cells.New(l...)
	x, y := New(m, 0, 11), New(m, 1, 21)
	goes(t, x, s, 1, false)
	goes(t, x, s, 3, true)
	goes(t, y, s, 1, false)
	goes(t, y, s, 6, true) // packet 1 is y's, and has its task
	goes(t, x, s, 1, true) // the swap is false
	goes(t, x, s, 7, true) // packet 2 is x's; the head of the pool, its link
	goes(t, y, s, 2, true)
	ended(t, y, s, true)
	goes(t, x, s, 1, true) // the swap is false
	holds(t, m, s, 21)
	goes(t, x, s, 2, true)
	ended(t, x, s, true)
	holds(t, m, s, 11, 21)
}

// P13.2
func TestNilMachine(t *testing.T) {
	m := chart(t, 1, 1, 2)
	s := cells.New(m.First()...)
	var x *Machine
	stays(t, x, s, false)
	stays(t, x, nil, false)
}

// P13.2
func TestNoMarker(t *testing.T) {
	for markers := 1; markers <= 4; markers++ {
		m := chart(t, 1, markers, 2)
		l := m.First()
		for i := range markers {
			l[m.Bottom(i)] = 2
		}
		for _, i := range wrong(markers) {
			for _, s := range []*cells.Store{cells.New(m.First()...), cells.New(l...), nil} {
				x := New(m, i, 7)
				if x == nil {
					t.Error("there is no machine")
				}
				stays(t, x, s, false)
				if s.Count() != 0 {
					t.Errorf("there were %d accesses", s.Count())
				}
			}
		}
	}
}

// P13.2
func TestNilMap(t *testing.T) {
	s := cells.New(5, 6, 7)
	for _, i := range append(wrong(0), 0, 1, 2, 3) {
		x := New(nil, i, 7)
		if x == nil {
			t.Error("there is no machine")
		}
		stays(t, x, s, false)
		stays(t, x, nil, false)
	}
	is(t, s, []uint64{5, 6, 7})
	if s.Count() != 0 {
		t.Errorf("there were %d accesses", s.Count())
	}
}

// In nil memory, and in one without the words, each step ends.
func TestMemoryWithoutWords(t *testing.T) {
	m := chart(t, 1, 1, 2)
	for _, s := range []*cells.Store{nil, cells.New(), cells.New(m.First()[:m.Top(0)]...)} {
		x := New(m, 0, 7)
		for step := range 4 {
			if x.Spilled() || x.Step(s) != (step == 3) {
				t.Errorf("it ends behind step %d", step)
			}
		}
		stays(t, x, s, false)
	}
	l := m.First()
	l[m.Bottom(0)] = 2
	s := cells.New(l[:m.Many(1)]...) // the first packet isn't there
	x := New(m, 0, 7)
	goes(t, x, s, 1, false)
	goes(t, x, s, 8, true)
	ended(t, x, s, true)
	l[m.Spare()], l[m.Pool()] = 1<<32, 1<<32+1
	is(t, s, l[:m.Many(1)])
	l[m.Spare()] = 0
	s = cells.New(l...)
	x = New(m, 0, 7)
	goes(t, x, s, 1, false)
	goes(t, x, s, 200, true) // there is no spare one, ever
	is(t, s, l)
}

// series tells the same numbers each time, each from 0 on and below an end.
type series uint64

func (s *series) below(end int) int {
	*s = *s*6364136223846793005 + 1442695040888963407
	return int(uint64(*s)>>33) % end
}

// saying is a machine as the chapter's words have it, by the layers below.
type saying struct {
	m       *layout.Map
	task    uint64
	push    *deque.Machine
	put     *packet.Machine
	done    bool
	spilled bool
}

// said is that of one marker.
func said(m *layout.Map, i int, task uint64) *saying {
	e := deque.Ends{Top: m.Top(i), Bottom: m.Bottom(i), Entry: m.Entry(i, 0), Room: m.Config().Deque}
	return &saying{m: m, task: task, push: deque.Push(e, task)}
}

// step does the next one.
func (x *saying) step(s *cells.Store) {
	switch {
	case x.done:
	case x.put != nil:
		x.done = x.put.Step(s)
	case x.push.Step(s):
		result, _ := x.push.Result()
		x.spilled = result == deque.Full
		x.done = !x.spilled
		x.put = packet.Put(x.m, x.task)
	}
}

// P13.1, P13.2: against the chapter's words, whatever stands in memory, and
// whatever others do between the steps.
func TestAgainstTheWords(t *testing.T) {
	n := series(13)
	m := chart(t, 1, 2, 3)
	places := []int{m.Pool(), m.Spare(), m.Top(0), m.Bottom(0), m.Top(1), m.Bottom(1), m.Entry(0, 1), m.Link(1), m.Link(2), m.Many(1), 0, m.Len() - 1, -1}
	few := []uint64{0, 1, 2, 3, 4, 5, 6, 1<<32 + 1, 7<<32 + 2, math.MaxUint32, 1<<63 - 1, 1 << 63, last - 1, last}
	spilled := 0
	for range 4000 {
		l := m.First()
		for i := range l {
			if n.below(3) == 0 {
				l[i] = few[n.below(len(few))]
			}
		}
		l = l[:len(l)-n.below(2)*n.below(len(l))]
		a, b := cells.New(l...), cells.New(l...)
		i, task := n.below(2), few[n.below(len(few))]
		x, want := New(m, i, task), said(m, i, task)
		for step := range 40 {
			if n.below(4) == 0 {
				at, word := places[n.below(len(places))], few[n.below(len(few))]
				a.Put(at, word)
				b.Put(at, word)
			}
			want.step(b)
			if x.Step(a) != want.done || x.Spilled() != want.spilled {
				t.Fatalf("marker %d, task %d, step %d: Spilled is %v", i, task, step, x.Spilled())
			}
			if !slices.Equal(a.All(), b.All()) || a.Count() != b.Count() {
				t.Fatalf("marker %d, task %d, step %d: memory is %v, not %v; %d accesses, not %d", i, task, step, a.All(), b.All(), a.Count(), b.Count())
			}
		}
		if want.spilled && want.done {
			spilled++
		}
	}
	if spilled < 100 {
		t.Errorf("there were %d that spilled alone", spilled)
	}
}

// run is markers that add tasks, and others who steal and take them.
type run struct {
	m       *layout.Map
	s       *cells.Store
	adds    []*Machine // each marker's
	added   uint64     // how many tasks there were: 1, 2, and so on
	steals  []*deque.Machine
	takes   []*packet.Machine
	out     []uint64
	spilled int
}

// stepAdd does a step of a marker that adds, which begins anew.
func (r *run) stepAdd(i int) {
	if r.adds[i] == nil {
		r.added++
		r.adds[i] = New(r.m, i, r.added)
	}
	if r.adds[i].Step(r.s) {
		if r.adds[i].Spilled() {
			r.spilled++
		}
		r.adds[i] = nil
	}
}

// stepSteal does a step of one who steals from a marker.
func (r *run) stepSteal(i int) {
	if r.steals[i] == nil {
		r.steals[i] = deque.Steal(Ends(r.m, i))
	}
	if r.steals[i].Step(r.s) {
		if result, task := r.steals[i].Result(); result == deque.Done {
			r.out = append(r.out, task)
		}
		r.steals[i] = nil
	}
}

// stepTake does a step of one who takes a packet, and puts it back.
func (r *run) stepTake(i int) {
	if r.takes[i] == nil {
		r.takes[i] = packet.Take(r.m)
	}
	if !r.takes[i].Step(r.s) {
		return
	}
	p := r.takes[i].Packet()
	r.takes[i] = nil
	if p == 0 {
		return
	}
	for j := range int(r.s.Load(r.m.Many(p))) {
		r.out = append(r.out, r.s.Load(r.m.Task(p, j)))
	}
	for x := packet.Back(r.m, p); !x.Step(r.s); {
	}
}

// end ends all that was begun, and has all tasks that are left.
func (r *run) end(t *testing.T) {
	t.Helper()
	for i := range r.adds {
		for r.steals[i] != nil {
			r.stepSteal(i)
		}
		for r.takes[i] != nil {
			r.stepTake(i)
		}
		for steps := 0; r.adds[i] != nil; steps++ {
			if steps > 1000 {
				t.Fatal("an add doesn't end")
			}
			r.stepAdd(i)
		}
	}
	for i := range r.adds {
		for range r.m.Config().Deque {
			r.stepSteal(i)
			for r.steals[i] != nil {
				r.stepSteal(i)
			}
		}
	}
	r.out = append(r.out, packet.Held(r.m, r.s.All())...)
}

// P13.1: whatever others steal and take, each task comes somewhere, once.
func TestEachTaskIsPutOnce(t *testing.T) {
	n := series(131)
	spilled := 0
	for range 300 {
		markers := 1 + n.below(4)
		m := chart(t, 12, markers, 2+n.below(7))
		r := &run{m: m, s: cells.New(m.First()...)}
		r.adds, r.steals, r.takes = make([]*Machine, markers), make([]*deque.Machine, markers), make([]*packet.Machine, markers)
		for range 600 {
			// Some go on for a while, as if the others slept.
			i, who := n.below(markers), n.below(3)
			for range 1 + n.below(6) {
				switch who {
				case 0:
					r.stepAdd(i)
				case 1:
					r.stepSteal(i)
				case 2:
					r.stepTake(i)
				}
			}
		}
		r.end(t)
		slices.Sort(r.out)
		want := make([]uint64, r.added)
		for k := range want {
			want[k] = uint64(k + 1)
		}
		if !slices.Equal(r.out, want) {
			t.Fatalf("of %d tasks there were %v", r.added, r.out)
		}
		spilled += r.spilled
	}
	if spilled == 0 {
		t.Error("nothing spilled")
	}
}

// P13.2: each machine is told of its own steps alone.
func TestEachMachineIsItsOwn(t *testing.T) {
	m := chart(t, 1, 2, 2)
	l := m.First()
	l[m.Bottom(1)] = 2
	s := cells.New(l...)
	x, y := New(m, 0, 7), New(m, 1, 8)
	spills(t, y, s)
	goes(t, x, s, 3, false)
	ended(t, x, s, false)
	stays(t, y, s, true)
	holds(t, m, s, 8)
}
