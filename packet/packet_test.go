package packet

import (
	"iter"
	"math"
	"slices"
	"testing"

	"dustman/cells"
	"dustman/layout"
	"dustman/stack"
)

const (
	low  = math.MaxUint32 // a word's low number
	last = math.MaxUint64
)

// chart is a map of so many nodes of a slot each: it has three more packets than
// twice as many.
func chart(t *testing.T, nodes int) *layout.Map {
	t.Helper()
	m, e := layout.New(layout.Config{Cells: [5]int{nodes}, Markers: 1, Mutators: 1, Deque: 2, Chunk: 1, Buffer: 1, Roots: 1, Sweep: 1})
	if e != 0 || m.Packets() != 2*nodes+3 {
		t.Fatalf("a map of %d nodes: %v, %d packets", nodes, e, m.Packets())
	}
	return m
}

// is asks that memory has those words.
func is(t *testing.T, s *cells.Store, want []uint64) {
	t.Helper()
	if got := s.All(); !slices.Equal(got, want) {
		t.Errorf("memory is %v, not %v", got, want)
	}
}

// goes does so many steps, of which none is the last one.
func goes(t *testing.T, x *Machine, s *cells.Store, steps int) {
	t.Helper()
	for range steps {
		count := s.Count()
		if x.Step(s) {
			t.Error("Step is true ahead of the last one")
		}
		if s.Count() != count+1 {
			t.Errorf("Step did %d accesses", s.Count()-count)
		}
		if x.Packet() != 0 {
			t.Errorf("Packet is %d ahead of the last step", x.Packet())
		}
	}
}

// ended does the last step, and further ones behind it, which do nothing.
func ended(t *testing.T, x *Machine, s *cells.Store, packet int) {
	t.Helper()
	count := s.Count()
	if !x.Step(s) {
		t.Error("Step is false at the last one")
	}
	if s.Count() != count+1 {
		t.Errorf("the last Step did %d accesses", s.Count()-count)
	}
	stays(t, x, s, packet)
}

// stays asks that a machine that is finished does nothing more.
func stays(t *testing.T, x *Machine, s *cells.Store, packet int) {
	t.Helper()
	l, count := s.All(), s.Count()
	if x.Packet() != packet {
		t.Errorf("Packet is %d, not %d", x.Packet(), packet)
	}
	for range 3 {
		if !x.Step(s) {
			t.Error("Step is false behind the last one")
		}
		if x.Packet() != packet {
			t.Errorf("Packet is %d, not %d, behind the last one", x.Packet(), packet)
		}
	}
	if s.Count() != count || !slices.Equal(s.All(), l) {
		t.Error("Step did something behind the last one")
	}
}

// takes does all steps of a machine, which are so many.
func takes(t *testing.T, x *Machine, s *cells.Store, steps, packet int) {
	t.Helper()
	goes(t, x, s, steps-1)
	ended(t, x, s, packet)
}

// atOnce asks that a machine is finished without a step.
func atOnce(t *testing.T, x *Machine, s *cells.Store) {
	t.Helper()
	stays(t, x, s, 0)
}

// holds asks what Held tells.
func holds(t *testing.T, m *layout.Map, l []uint64, want ...uint64) {
	t.Helper()
	if got := Held(m, l); !slices.Equal(got, want) {
		t.Errorf("Held is %v, not %v", got, want)
	}
}

// The chapter's example.
func TestTheExample(t *testing.T) {
	m := chart(t, 1)
	s := cells.New(m.First()...)
	takes(t, Put(m, 7, 8), s, 9, 1)
	takes(t, Take(m), s, 3, 1)
}

// P11.1
func TestPutStepByStep(t *testing.T) {
	m := chart(t, 1)
	s := cells.New(m.First()...)
	want := s.All()
	x := Put(m, 11, 12, 13, 14)
	goes(t, x, s, 2)
	is(t, s, want)
	goes(t, x, s, 1)
	want[m.Spare()] = 1<<32 + 2
	is(t, s, want)
	for j := range 4 {
		goes(t, x, s, 1)
		want[m.Task(1, j)] = uint64(11 + j)
		is(t, s, want)
	}
	goes(t, x, s, 1)
	want[m.Many(1)] = 4
	is(t, s, want)
	goes(t, x, s, 1)
	is(t, s, want)
	goes(t, x, s, 1)
	want[m.Link(1)] = 0
	is(t, s, want)
	ended(t, x, s, 1)
	want[m.Pool()] = 1<<32 + 1
	is(t, s, want)
	holds(t, m, want, 11, 12, 13, 14)
}

// P11.1: any tasks, and as many as there are, but four at most.
func TestPutOfTasks(t *testing.T) {
	m := chart(t, 1)
	for _, tasks := range [][]uint64{
		{0},
		{last},
		{1 << 63, 0},
		{1, 1, 1},
		{5, 6, 7},
		{5, 6, 7, 8},
		{5, 6, 7, 8, 9},
		{5, 6, 7, 8, 9, 10, 11, 12},
		make([]uint64, 1000),
	} {
		l := m.First()
		for j := range 4 {
			l[m.Task(1, j)] = 99 // what an earlier one left there
		}
		l[m.Many(1)] = 3
		s := cells.New(l...)
		n := min(len(tasks), 4)
		takes(t, Put(m, tasks...), s, n+7, 1)
		l[m.Spare()], l[m.Pool()], l[m.Link(1)], l[m.Many(1)] = 1<<32+2, 1<<32+1, 0, uint64(n)
		for j := range n {
			l[m.Task(1, j)] = tasks[j]
		}
		is(t, s, l)
		holds(t, m, l, tasks[:n]...)
	}
}

// P11.1
func TestPutOfNone(t *testing.T) {
	m := chart(t, 1)
	s := cells.New(m.First()...)
	atOnce(t, Put(m), s)
	atOnce(t, Put(m, nil...), s)
	atOnce(t, Put(m, []uint64{}...), s)
	is(t, s, m.First())
}

// P11.1: the list is the caller's; neither is it changed, nor kept.
func TestPutKeepsNoList(t *testing.T) {
	m := chart(t, 1)
	for ahead := range 5 { // of so many steps the list is changed behind
		s := cells.New(m.First()...)
		tasks := []uint64{1, 2, 3, 4, 5}
		x := Put(m, tasks...)
		goes(t, x, s, ahead)
		if !slices.Equal(tasks, []uint64{1, 2, 3, 4, 5}) {
			t.Errorf("the list is %v", tasks)
		}
		clear(tasks)
		takes(t, x, s, 11-ahead, 1)
		holds(t, m, s.All(), 1, 2, 3, 4)
		if !slices.Equal(tasks, make([]uint64, 5)) {
			t.Errorf("the list is %v", tasks)
		}
	}
}

// P11.1: where there is no spare one it looks again, an access a look.
func TestPutWaitsForASpareOne(t *testing.T) {
	m := chart(t, 1)
	s := cells.New(m.First()...)
	for p := 1; p <= m.Packets(); p++ {
		takes(t, Put(m, uint64(p)), s, 8, p)
	}
	l := s.All()
	x := Put(m, 77, 78)
	goes(t, x, s, 50)
	is(t, s, l)
	takes(t, Take(m), s, 3, 5)
	goes(t, x, s, 3) // it is nobody's spare one yet
	takes(t, Back(m, 5), s, 3, 5)
	takes(t, x, s, 9, 5)
	holds(t, m, s.All(), 77, 78, 4, 3, 2, 1)
}

// P11.1: others are ahead at the spare ones and at the pool.
func TestPutIsTriedAgain(t *testing.T) {
	m := chart(t, 1)
	s := cells.New(m.First()...)
	x, y := Put(m, 11), Put(m, 21)
	goes(t, x, s, 2)
	goes(t, y, s, 4) // packet 1 is y's, and has its task
	goes(t, x, s, 1) // the swap is false
	goes(t, x, s, 3) // packet 2 is x's
	goes(t, x, s, 4) // its task, Many, the head of the pool, its link
	takes(t, y, s, 4, 1)
	goes(t, x, s, 1) // the swap is false
	holds(t, m, s.All(), 21)
	takes(t, x, s, 3, 2)
	holds(t, m, s.All(), 11, 21)
}

// P11.2
func TestTakeStepByStep(t *testing.T) {
	m := chart(t, 1)
	s := cells.New(m.First()...)
	takes(t, Put(m, 11, 12), s, 9, 1)
	takes(t, Put(m, 21), s, 8, 2)
	want := s.All()
	x := Take(m)
	goes(t, x, s, 2)
	is(t, s, want)
	ended(t, x, s, 2)
	want[m.Pool()] = 3<<32 + 1
	is(t, s, want)
	takes(t, Take(m), s, 3, 1)
	want[m.Pool()] = 4 << 32
	is(t, s, want)
	takes(t, Take(m), s, 1, 0)
	is(t, s, want)
}

// P11.2
func TestTakeIsTriedAgain(t *testing.T) {
	m := chart(t, 1)
	s := cells.New(m.First()...)
	takes(t, Put(m, 11), s, 8, 1)
	takes(t, Put(m, 21), s, 8, 2)
	x, y := Take(m), Take(m)
	goes(t, x, s, 2)
	takes(t, y, s, 3, 2)
	goes(t, x, s, 1)
	takes(t, x, s, 3, 1)
	x, y = Take(m), Take(m)
	takes(t, x, s, 1, 0)
	takes(t, y, s, 1, 0)
}

// P11.2
func TestBackStepByStep(t *testing.T) {
	m := chart(t, 1)
	s := cells.New(m.First()...)
	takes(t, Put(m, 11), s, 8, 1)
	takes(t, Take(m), s, 3, 1)
	want := s.All()
	x := Back(m, 1)
	goes(t, x, s, 1)
	is(t, s, want)
	goes(t, x, s, 1)
	want[m.Link(1)] = 2
	is(t, s, want)
	ended(t, x, s, 1)
	want[m.Spare()] = 2<<32 + 1
	is(t, s, want)
	x = Back(m, 5)
	goes(t, x, s, 2)
	s.Put(m.Spare(), 7<<32+3)
	goes(t, x, s, 1)
	takes(t, x, s, 3, 5)
	want[m.Link(5)], want[m.Spare()] = 3, 8<<32+5
	is(t, s, want)
}

// P11.2
func TestBackOfPackets(t *testing.T) {
	m := chart(t, 2)
	for p := 1; p <= 7; p++ {
		s := cells.New(m.First()...)
		takes(t, Back(m, p), s, 3, p)
	}
	for _, p := range []int{
		math.MinInt, math.MinInt + 1, -1 << 32, -1<<32 + 1, -7, -1, 0, 8, 9, 99,
		low, 1 << 32, 1<<32 + 1, 1<<33 + 7, math.MaxInt - 1, math.MaxInt,
	} {
		s := cells.New(m.First()...)
		atOnce(t, Back(m, p), s)
		is(t, s, m.First())
	}
}

// P11.3
func TestNilMachine(t *testing.T) {
	m := chart(t, 1)
	s := cells.New(m.First()...)
	var x *Machine
	atOnce(t, x, s)
	if !x.Step(nil) {
		t.Error("Step of nil in nil is false")
	}
}

// P11.3
func TestNilMap(t *testing.T) {
	s := cells.New(5, 6, 7)
	for _, p := range []int{-1, 0, 1, 2, math.MaxInt} {
		atOnce(t, Back(nil, p), s)
	}
	atOnce(t, Take(nil), s)
	atOnce(t, Put(nil), s)
	atOnce(t, Put(nil, 1), s)
	atOnce(t, Put(nil, 1, 2, 3, 4, 5), s)
	is(t, s, []uint64{5, 6, 7})
	for _, l := range [][]uint64{nil, {}, {1}, {1, 1, 1, 1, 1, 1, 1, 1}} {
		holds(t, nil, l)
	}
}

// In nil memory, and in one without words, all words are 0, and each step ends.
func TestMemoryWithoutWords(t *testing.T) {
	m := chart(t, 1)
	for _, s := range []*cells.Store{nil, cells.New()} {
		x := Put(m, 1)
		for range 100 {
			if x.Step(s) || x.Packet() != 0 {
				t.Error("Put found a spare one")
			}
		}
		x = Back(m, 1)
		for range 100 {
			if x.Step(s) || x.Packet() != 0 {
				t.Error("Back put it somewhere")
			}
		}
		x = Take(m)
		if !x.Step(s) || x.Packet() != 0 {
			t.Error("Take took one")
		}
	}
}

// P11.4
func TestHeldInOrder(t *testing.T) {
	m := chart(t, 1)
	s := cells.New(m.First()...)
	holds(t, m, s.All())
	takes(t, Put(m, 11, 12, 13), s, 10, 1)
	takes(t, Put(m, 21), s, 8, 2)
	takes(t, Put(m, 31, 32, 33, 34), s, 11, 3)
	l := s.All()
	holds(t, m, l, 31, 32, 33, 34, 21, 11, 12, 13)
	is(t, s, l)
	first := Held(m, l)
	clear(first)
	holds(t, m, l, 31, 32, 33, 34, 21, 11, 12, 13)
	takes(t, Take(m), s, 3, 3)
	holds(t, m, s.All(), 21, 11, 12, 13)
	takes(t, Back(m, 3), s, 3, 3)
	holds(t, m, s.All(), 21, 11, 12, 13)
}

// P11.4
func TestHeldByMany(t *testing.T) {
	m := chart(t, 1)
	for _, c := range []struct {
		many uint64
		want int
	}{
		{0, 0}, {1, 1}, {2, 2}, {3, 3}, {4, 4}, {5, 4}, {6, 4}, {1 << 32, 4}, {1<<32 + 1, 4},
		{1<<63 - 1, 4}, {1 << 63, 4}, {1<<63 + 1, 4}, {last - 3, 4}, {last, 4},
	} {
		l := m.First()
		l[m.Pool()], l[m.Link(4)], l[m.Many(2)] = 9<<32+4, 5<<32+2, 1
		l[m.Many(4)], l[m.Link(2)] = c.many, 0
		tasks := []uint64{41, 0, 43, last}
		for j, w := range tasks {
			l[m.Task(4, j)] = w
		}
		l[m.Task(2, 0)] = 21
		holds(t, m, l, append(slices.Clone(tasks[:c.want]), 21)...)
	}
}

// P11.4: of Packets packets at most, where links lead round.
func TestHeldGoesRound(t *testing.T) {
	m := chart(t, 2)
	l := m.First()
	l[m.Pool()], l[m.Link(6)], l[m.Link(2)] = 6, 2, 6
	l[m.Many(6)], l[m.Task(6, 0)], l[m.Task(6, 1)] = 2, 61, 62
	l[m.Many(2)], l[m.Task(2, 0)] = 1, 21
	holds(t, m, l, 61, 62, 21, 61, 62, 21, 61, 62, 21, 61, 62)
}

// P11.4: there are no tasks where there is no packet, or no word.
func TestHeldOfWrongMemory(t *testing.T) {
	m := chart(t, 1)
	for _, p := range []uint64{0, 6, 7, 99, low, 1 << 32, 3 << 32} {
		l := m.First()
		for i := range l {
			if i != m.Spare() {
				l[i] = 2
			}
		}
		l[m.Pool()] = p
		holds(t, m, l)
	}
	l := m.First()
	l[m.Pool()], l[m.Link(1)], l[m.Many(1)] = 5, 0, 1
	l[m.Link(5)], l[m.Many(5)], l[m.Task(1, 0)] = 1, 4, 11
	for j := range 4 {
		l[m.Task(5, j)] = uint64(51 + j)
	}
	holds(t, m, nil)
	holds(t, m, l[:m.Pool()])
	holds(t, m, l[:m.Many(1)])
	holds(t, m, l[:m.Link(1)])
	holds(t, m, l[:m.Many(5)])
	holds(t, m, l[:m.Link(5)], 0, 0, 0, 0)
	holds(t, m, l[:m.Task(5, 2)], 51, 52, 0, 0, 11)
	holds(t, m, l, 51, 52, 53, 54, 11)
}

// Kinds of machines.
const (
	put = iota
	take
	back
)

// saying is a machine as the chapter's words have it.
type saying struct {
	m      *layout.Map
	s      *cells.Store
	kind   int
	tasks  []uint64
	back   int
	packet int
	step   func() // it ends a step that isn't the last one
}

// steps is its steps, told one by one: each ends ahead of a yield but the last
// one, which ends all.
func (x *saying) steps() iter.Seq[int] {
	return func(yield func(int) bool) {
		defer func() {
			if r := recover(); r != nil && r != x {
				panic(r)
			}
		}()
		x.step = func() {
			if !yield(0) {
				panic(x) // nobody asks any more
			}
		}
		switch x.kind {
		case put:
			x.doPut()
		case take:
			x.packet = x.pop(x.m.Pool())
		case back:
			if x.back >= 1 && x.back <= x.m.Packets() {
				x.push(x.m.Spare(), x.back)
				x.packet = x.back
			}
		}
	}
}

func (x *saying) doPut() {
	tasks := x.tasks
	if len(tasks) > 4 {
		tasks = tasks[:4]
	}
	if len(tasks) == 0 {
		return
	}
	p := x.pop(x.m.Spare())
	for p == 0 {
		x.step()
		p = x.pop(x.m.Spare())
	}
	for j, w := range tasks {
		x.step()
		x.s.Put(x.m.Task(p, j), w)
	}
	x.step()
	x.s.Put(x.m.Many(p), uint64(len(tasks)))
	x.step()
	x.push(x.m.Pool(), p)
	x.packet = p
}

func (x *saying) pop(head int) int {
	for {
		h := x.s.Load(head)
		thing := int(h & low)
		if thing == 0 {
			return 0
		}
		x.step()
		n := x.s.Load(x.m.Link(thing))
		x.step()
		if x.s.Swap(head, h, (h>>32+1)<<32|n&low) {
			return thing
		}
		x.step()
	}
}

func (x *saying) push(head, thing int) {
	for {
		h := x.s.Load(head)
		x.step()
		x.s.Put(x.m.Link(thing), h&low)
		x.step()
		if x.s.Swap(head, h, (h>>32+1)<<32|uint64(thing)) {
			return
		}
		x.step()
	}
}

// series tells the same numbers each time, each from 0 on and below an end.
type series uint64

func (s *series) below(end int) int {
	*s = *s*6364136223846793005 + 1442695040888963407
	return int(uint64(*s)>>33) % end
}

// machine is the machine of some words.
func (x *saying) machine() *Machine {
	switch x.kind {
	case put:
		return Put(x.m, x.tasks...)
	case take:
		return Take(x.m)
	}
	return Back(x.m, x.back)
}

// P11.1, P11.2, P11.3: against the chapter's words, whatever stands in memory, and
// whatever others do between the steps.
func TestAgainstTheWords(t *testing.T) {
	n := series(11)
	m := chart(t, 1)
	places := []int{m.Pool(), m.Spare(), m.Many(1), m.Link(1), m.Link(2), m.Link(5), m.Task(1, 0), 0, m.Len() - 1, -1}
	few := []uint64{0, 1, 2, 3, 5, 6, 1<<32 + 1, 7<<32 + 2, low, low << 32, last - 1, last}
	for range 4000 {
		l := m.First()
		if n.below(3) == 0 {
			for i := range l {
				l[i] = few[n.below(len(few))]
			}
		}
		l = l[:len(l)-n.below(2)*n.below(len(l))]
		a, b := cells.New(l...), cells.New(l...)
		want := &saying{m: m, s: b, kind: n.below(3), back: n.below(8) - 1}
		for range n.below(6) {
			want.tasks = append(want.tasks, few[n.below(len(few))])
		}
		x := want.machine()
		next, stop := iter.Pull(want.steps())
		for step := range 40 {
			if n.below(4) == 0 {
				at, word := places[n.below(len(places))], few[n.below(len(few))]
				a.Put(at, word)
				b.Put(at, word)
			}
			_, more := next()
			if x.Step(a) == more || x.Packet() != want.packet {
				t.Fatalf("%+v, step %d: Packet is %d", want, step, x.Packet())
			}
			if !slices.Equal(a.All(), b.All()) || a.Count() != b.Count() {
				t.Fatalf("%+v, step %d: memory is %v, not %v; %d accesses, not %d", want, step, a.All(), b.All(), a.Count(), b.Count())
			}
		}
		stop()
	}
}

// actor does machines of some kinds, one behind the other.
type actor struct {
	kinds []int
	tasks []uint64 // those of its next Put; the next one's are other ones
	has   []int    // packets that are its alone, with nothing in them that counts
	x     *Machine
}

// run is packets, and those who use them.
type run struct {
	m      *layout.Map
	s      *cells.Store
	pool   [][]uint64 // the tasks of the packets that should be there, the first one at the end
	actors []*actor
	steps  int
	none   int // how many Takes took nothing
}

// from is a run of which so many packets are spare.
func from(m *layout.Map, spare int) *run {
	r := &run{m: m, s: cells.New(m.First()...)}
	if spare == 0 {
		r.s.Put(m.Spare(), 0)
	} else {
		r.s.Put(m.Link(spare), 0)
	}
	return r
}

// fill puts packets with a task each, one behind the other.
func (r *run) fill(many int) {
	for i := range many {
		x := Put(r.m, uint64(900+i))
		for !x.Step(r.s) {
		}
		r.pool = append(r.pool, []uint64{uint64(900 + i)})
	}
}

// act lets an actor begin.
func (r *run) act(kinds []int) *actor {
	a := &actor{kinds: kinds, tasks: []uint64{uint64(1000 * (len(r.actors) + 1))}}
	r.actors = append(r.actors, a)
	return a
}

// begin makes an actor's next machine; false: it has none.
func (r *run) begin(a *actor) bool {
	for len(a.kinds) > 0 && a.kinds[0] == back && len(a.has) == 0 {
		a.kinds = a.kinds[1:]
	}
	if len(a.kinds) == 0 {
		return false
	}
	switch a.kinds[0] {
	case put:
		a.x = Put(r.m, a.tasks...)
	case take:
		a.x = Take(r.m)
	case back:
		a.x = Back(r.m, a.has[0])
	}
	return true
}

// step does an actor's next step; false: it has none.
func (r *run) step(t *testing.T, who int) bool {
	a := r.actors[who]
	if a.x == nil && !r.begin(a) {
		return false
	}
	if r.steps++; r.steps > 100000 {
		t.Fatal("steps don't end")
	}
	if a.x.Step(r.s) {
		r.ended(t, a)
		a.x, a.kinds = nil, a.kinds[1:]
	}
	r.looks(t)
	return true
}

// ended notes what an actor did.
func (r *run) ended(t *testing.T, a *actor) {
	p := a.x.Packet()
	switch {
	case a.kinds[0] == put:
		if p == 0 {
			t.Error("nothing was put")
		}
		r.pool = append(r.pool, a.tasks)
		next := a.tasks[len(a.tasks)-1] + 1
		a.tasks = nil
		for range next%4 + 1 {
			a.tasks = append(a.tasks, next)
			next++
		}
	case a.kinds[0] == back:
		if p != a.has[0] {
			t.Errorf("Back of %d tells %d", a.has[0], p)
		}
		a.has = a.has[1:]
	case len(r.pool) == 0:
		if p != 0 {
			t.Errorf("%d was taken of nothing", p)
		}
		r.none++
	default:
		end := len(r.pool) - 1
		if got := r.tasks(p); !slices.Equal(got, r.pool[end]) {
			t.Errorf("%v were taken of %v", got, r.pool)
		}
		r.pool = r.pool[:end]
		a.has = append(a.has, p)
	}
}

// tasks is the tasks of a packet.
func (r *run) tasks(p int) []uint64 {
	l := r.s.All()
	var tasks []uint64
	for j := range int(l[r.m.Many(p)]) {
		tasks = append(tasks, l[r.m.Task(p, j)])
	}
	return tasks
}

// looks asks that the pool has what it should, and that no packet is there twice.
func (r *run) looks(t *testing.T) {
	l := r.s.All()
	var want []uint64
	for i := range r.pool {
		want = append(want, r.pool[len(r.pool)-1-i]...)
	}
	holds(t, r.m, l, want...)
	all := stack.Walk(l, r.m.Pool(), r.m.Link, 100)
	if len(all) != len(r.pool) {
		t.Errorf("%v are in the pool, not %d", all, len(r.pool))
	}
	all = append(all, stack.Walk(l, r.m.Spare(), r.m.Link, 100)...)
	for _, a := range r.actors {
		all = append(all, a.has...)
	}
	slices.Sort(all)
	for i := range all {
		if i > 0 && all[i] == all[i-1] {
			t.Errorf("packet %d is there twice: %v", all[i], all)
		}
	}
}

// orders goes through all orders in which the actors' steps may come, each from
// the run's beginning on, and tells how many there are.
func orders(t *testing.T, begin func() *run) int {
	t.Helper()
	var whos []int // whose steps they are
	for many := 1; ; many++ {
		r := begin()
		for _, who := range whos {
			r.step(t, who)
		}
		for who := range r.actors {
			for r.step(t, who) {
				whos = append(whos, who)
			}
		}
		if t.Failed() {
			t.Errorf("in the order %v", whos)
			return many
		}
		if whos = next(whos, len(r.actors)); whos == nil {
			return many
		}
	}
}

// next is the beginning of the next order: up to the last step ahead of which a
// later actor could step, which does.
func next(whos []int, all int) []int {
	for i := len(whos) - 1; i >= 0; i-- {
		for who := whos[i] + 1; who < all; who++ {
			if slices.Contains(whos[i:], who) {
				return append(whos[:i], who)
			}
		}
	}
	return nil
}

// P11.5: all orders of few steps.
func TestTakenAsPutInAllOrders(t *testing.T) {
	m := chart(t, 1)
	for _, c := range []struct {
		fill  int
		kinds [][]int
		least int // how many orders there are, at least
	}{
		{0, [][]int{{put}, {take}}, 9},
		{1, [][]int{{put}, {take}}, 100},
		{2, [][]int{{take}, {take}}, 20},
		{1, [][]int{{take}, {take}}, 5},
		{2, [][]int{{take, back}, {take, back}}, 500},
		{1, [][]int{{put}, {take, back}}, 2000},
		{2, [][]int{{take}, {take, back, put}}, 300}, // what was seen in front is back, with other tasks
	} {
		begin := func() *run {
			r := from(m, m.Packets())
			r.fill(c.fill)
			for _, l := range c.kinds {
				r.act(l)
			}
			return r
		}
		if many := orders(t, begin); many < c.least {
			t.Errorf("%v: there were %d orders, not %d", c.kinds, many, c.least)
		}
	}
}

// P11.5: some orders of many steps, of up to five who put, take and put back.
func TestTakenAsPutInLongOrders(t *testing.T) {
	n := series(115)
	m := chart(t, 1)
	none := 0
	for range 150 {
		r := from(m, 1+n.below(5))
		r.fill(n.below(2))
		for range 2 + n.below(4) {
			kinds := make([]int, 30)
			for i := range kinds {
				kinds[i] = n.below(3)
			}
			r.act(kinds)
		}
		for range 1500 {
			// Some go on for a while, as if the others slept.
			who := n.below(len(r.actors))
			for range 1 + n.below(5) {
				r.step(t, who)
			}
		}
		none += r.none
		if t.Failed() {
			return
		}
	}
	if none == 0 {
		t.Error("no Take found nothing")
	}
}
