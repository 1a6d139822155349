package claim

import (
	"iter"
	"math"
	"slices"
	"testing"

	"dustman/cells"
	"dustman/layout"
)

const last = math.MaxUint64

// chart is a map of so many nodes of a slot each.
func chart(t *testing.T, nodes int) *layout.Map {
	t.Helper()
	m, e := layout.New(layout.Config{Cells: [5]int{nodes}, Markers: 1, Mutators: 1, Deque: 2, Chunk: 1, Buffer: 1, Roots: 1, Sweep: 1})
	if e != 0 || m.Nodes() != nodes {
		t.Fatalf("a map of %d nodes: %v, %d nodes", nodes, e, m.Nodes())
	}
	return m
}

// filled is all words of a map, each of them another one, none of which is small.
func filled(m *layout.Map) []uint64 {
	l := make([]uint64, m.Len())
	for i := range l {
		l[i] = uint64(1000 + i)
	}
	return l
}

// is asks that memory has those words.
func is(t *testing.T, s *cells.Store, want []uint64) {
	t.Helper()
	if got := s.All(); !slices.Equal(got, want) {
		t.Errorf("memory is %v, not %v", got, want)
	}
}

// goes does so many steps, of which none is the last one.
func goes(t *testing.T, x *Machine, s *cells.Store, steps int) {
	t.Helper()
	for range steps {
		count := s.Count()
		if x.Won() {
			t.Error("it is Won ahead of the last step")
		}
		if x.Step(s) {
			t.Error("Step is true ahead of the last one")
		}
		if s.Count() != count+1 {
			t.Errorf("Step did %d accesses", s.Count()-count)
		}
		if x.Won() {
			t.Error("it is Won ahead of the last step")
		}
	}
}

// ended does the last step, and further ones behind it, which do nothing.
func ended(t *testing.T, x *Machine, s *cells.Store, won bool) {
	t.Helper()
	count := s.Count()
	if !x.Step(s) {
		t.Error("Step is false at the last one")
	}
	if s.Count() != count+1 {
		t.Errorf("the last Step did %d accesses", s.Count()-count)
	}
	stays(t, x, s, won)
}

// stays asks that a machine that is finished does nothing more.
func stays(t *testing.T, x *Machine, s *cells.Store, won bool) {
	t.Helper()
	l, count := s.All(), s.Count()
	if x.Won() != won {
		t.Errorf("Won is %v", x.Won())
	}
	for range 3 {
		if !x.Step(s) {
			t.Error("Step is false behind the last one")
		}
		if x.Won() != won {
			t.Errorf("Won is %v behind the last one", x.Won())
		}
	}
	if s.Count() != count || !slices.Equal(s.All(), l) {
		t.Error("Step did something behind the last one")
	}
}

// takes does all steps of a machine, which are so many.
func takes(t *testing.T, x *Machine, s *cells.Store, steps int, won bool) {
	t.Helper()
	goes(t, x, s, steps-1)
	ended(t, x, s, won)
}

// The chapter's example.
func TestTheExample(t *testing.T) {
	m := chart(t, 2)
	s := cells.New(m.First()...)
	want := s.All()
	takes(t, New(m, 1, 1), s, 3, true)
	want[m.Work()], want[m.Mark(1)] = 1, 1
	is(t, s, want)
	takes(t, New(m, 1, 1), s, 1, false)
	is(t, s, want)
}

// P12.1, P12.2: what each step does, and that it does nothing else.
func TestWinStepByStep(t *testing.T) {
	m := chart(t, 3)
	for v := 1; v <= 3; v++ {
		s := cells.New(filled(m)...)
		want := s.All()
		k := want[m.Mark(v)]
		x := New(m, v, k+7)
		is(t, s, want)
		goes(t, x, s, 1)
		is(t, s, want)
		goes(t, x, s, 1)
		want[m.Work()]++
		is(t, s, want)
		ended(t, x, s, true)
		want[m.Mark(v)] = k + 7
		is(t, s, want)
	}
}

// P12.1: where another one was ahead, Work is as it was.
func TestLossStepByStep(t *testing.T) {
	m := chart(t, 3)
	for v := 1; v <= 3; v++ {
		s := cells.New(filled(m)...)
		want := s.All()
		k := want[m.Mark(v)]
		x := New(m, v, k+7)
		goes(t, x, s, 2)
		s.Put(m.Mark(v), k+7)
		want[m.Work()]++
		want[m.Mark(v)] = k + 7
		goes(t, x, s, 1)
		is(t, s, want)
		ended(t, x, s, false)
		want[m.Work()]--
		is(t, s, want)
	}
}

// P12.1: a mark counts as a number from 0 to 2^64 - 1.
func TestMarksAndCycles(t *testing.T) {
	m := chart(t, 2)
	edges := []uint64{
		0, 1, 2, 3, 1<<31 - 1, 1 << 31, math.MaxUint32, 1 << 32, 1<<32 + 1, 1<<60 - 1, 1 << 60,
		math.MaxInt64, 1 << 63, 1<<63 + 1, last - 1, last,
	}
	for _, mark := range edges {
		for _, cycle := range edges {
			l := filled(m)
			l[m.Mark(1)] = mark
			s := cells.New(l...)
			if mark >= cycle {
				takes(t, New(m, 1, cycle), s, 1, false)
			} else {
				takes(t, New(m, 1, cycle), s, 3, true)
				l[m.Work()]++
				l[m.Mark(1)] = cycle
			}
			is(t, s, l)
		}
	}
}

// P12.1: in a later cycle a node is marked anew.
func TestCycleByCycle(t *testing.T) {
	m := chart(t, 2)
	s := cells.New(m.First()...)
	want := s.All()
	for cycle := uint64(1); cycle <= 5; cycle++ {
		for v := 1; v <= 2; v++ {
			takes(t, New(m, v, cycle), s, 3, true)
			want[m.Work()]++
			want[m.Mark(v)] = cycle
			is(t, s, want)
			for ahead := range cycle + 1 {
				takes(t, New(m, v, ahead), s, 1, false)
			}
			is(t, s, want)
		}
	}
}

// P12.1: the mark is what it is at (1), not what it was when the machine was made.
func TestMarkIsSeenAtTheFirstStep(t *testing.T) {
	m := chart(t, 1)
	s := cells.New(m.First()...)
	x, y := New(m, 1, 5), New(m, 1, 5)
	s.Put(m.Mark(1), 5)
	takes(t, x, s, 1, false)
	s.Put(m.Mark(1), 4)
	takes(t, y, s, 3, true)
}

// P12.1: the swap is true of what was seen alone; whatever else the mark is, even
// one below the cycle, another one was ahead.
func TestSwapSeesTheMarkAlone(t *testing.T) {
	m := chart(t, 1)
	for _, mark := range []uint64{0, 1, 2, 4, 5, 6, 1<<32 + 3, 1<<63 + 3, last} {
		for ahead := 1; ahead <= 2; ahead++ { // of so many steps the mark is changed behind
			l := filled(m)
			l[m.Mark(1)] = 3
			s := cells.New(l...)
			x := New(m, 1, 5)
			goes(t, x, s, ahead)
			s.Put(m.Mark(1), mark)
			goes(t, x, s, 3-ahead)
			ended(t, x, s, false)
			l[m.Mark(1)] = mark
			is(t, s, l)
		}
	}
	l := filled(m)
	l[m.Mark(1)] = 3
	s := cells.New(l...)
	x := New(m, 1, 5)
	goes(t, x, s, 1)
	s.Put(m.Mark(1), 4)
	goes(t, x, s, 1)
	s.Put(m.Mark(1), 3) // what is done and undone isn't seen
	ended(t, x, s, true)
}

// P12.1: Work goes round at 2^64.
func TestWorkGoesRound(t *testing.T) {
	m := chart(t, 1)
	for _, work := range []uint64{0, 1, math.MaxUint32, 1 << 32, math.MaxInt64, 1 << 63, last - 1, last} {
		l := m.First()
		l[m.Work()] = work
		s := cells.New(l...)
		x, y := New(m, 1, 1), New(m, 1, 1)
		goes(t, x, s, 2)
		takes(t, y, s, 3, true)
		l[m.Mark(1)] = 1
		l[m.Work()] = work + 2
		is(t, s, l)
		goes(t, x, s, 1)
		ended(t, x, s, false)
		l[m.Work()] = work + 1
		is(t, s, l)
	}
	s := cells.New(m.First()...)
	x := New(m, 1, 1)
	goes(t, x, s, 2)
	s.Put(m.Mark(1), 9)
	s.Put(m.Work(), 0) // whatever others do, it is 1 less
	goes(t, x, s, 1)
	ended(t, x, s, false)
	if w := s.Load(m.Work()); w != last {
		t.Errorf("Work is %d", w)
	}
}

// P12.1: of no node the mark is 0, and can't be changed.
func TestNoNode(t *testing.T) {
	m := chart(t, 3)
	for _, v := range []int{math.MinInt, -1 << 32, -1<<32 + 1, -3, -2, -1, 0, 4, 5, 99, 1 << 32, 1<<32 + 1, math.MaxInt - 1, math.MaxInt} {
		for _, cycle := range []uint64{1, 2, 1 << 63, last} {
			s := cells.New(filled(m)...)
			want := s.All()
			x := New(m, v, cycle)
			goes(t, x, s, 1)
			is(t, s, want)
			goes(t, x, s, 1)
			want[m.Work()]++
			is(t, s, want)
			goes(t, x, s, 1)
			is(t, s, want)
			ended(t, x, s, false)
			want[m.Work()]--
			is(t, s, want)
		}
		s := cells.New(filled(m)...)
		takes(t, New(m, v, 0), s, 1, false)
		is(t, s, filled(m))
	}
}

// P12.2
func TestNilMachine(t *testing.T) {
	m := chart(t, 1)
	s := cells.New(m.First()...)
	var x *Machine
	stays(t, x, s, false)
	stays(t, x, nil, false)
}

// P12.2
func TestNilMap(t *testing.T) {
	s := cells.New(5, 6, 7)
	for _, v := range []int{math.MinInt, -1, 0, 1, 2, math.MaxInt} {
		for _, cycle := range []uint64{0, 1, 9, last} {
			x := New(nil, v, cycle)
			if x == nil {
				t.Error("there is no machine")
			}
			stays(t, x, s, false)
			stays(t, x, nil, false)
		}
	}
	is(t, s, []uint64{5, 6, 7})
}

// In nil memory, and in one without the words, each step ends.
func TestMemoryWithoutWords(t *testing.T) {
	m := chart(t, 1)
	for _, s := range []*cells.Store{nil, cells.New(), cells.New(m.First()[:m.Mark(1)]...)} {
		x := New(m, 1, 5)
		for step := range 4 {
			if x.Won() || x.Step(s) != (step == 3) {
				t.Errorf("it ends behind step %d", step)
			}
		}
		stays(t, x, s, false)
		if w := s.Load(m.Work()); w != 0 {
			t.Errorf("Work is %d", w)
		}
		x = New(m, 1, 0)
		if !x.Step(s) {
			t.Error("in cycle 0 it isn't finished at once")
		}
		stays(t, x, s, false)
	}
}

// saying is a machine as the chapter's words have it.
type saying struct {
	m     *layout.Map
	s     *cells.Store
	v     int
	cycle uint64
	won   bool
}

// steps is its steps, told one by one: each ends ahead of a yield but the last
// one, which ends all.
func (x *saying) steps() iter.Seq[int] {
	return func(yield func(int) bool) {
		k := x.s.Load(x.m.Mark(x.v))
		if k >= x.cycle || !yield(1) {
			return
		}
		x.s.Add(x.m.Work(), 1)
		if !yield(2) {
			return
		}
		if x.s.Swap(x.m.Mark(x.v), k, x.cycle) {
			x.won = true
			return
		}
		if yield(3) {
			x.s.Add(x.m.Work(), 1<<64-1)
		}
	}
}

// series tells the same numbers each time, each from 0 on and below an end.
type series uint64

func (s *series) below(end int) int {
	*s = *s*6364136223846793005 + 1442695040888963407
	return int(uint64(*s)>>33) % end
}

// P12.1, P12.2: against the chapter's words, whatever stands in memory, and
// whatever others do between the steps.
func TestAgainstTheWords(t *testing.T) {
	n := series(12)
	m := chart(t, 3)
	places := []int{m.Work(), m.Mark(1), m.Mark(2), m.Mark(3), m.State(1), 0, m.Len() - 1, -1}
	few := []uint64{0, 1, 2, 3, 4, 1 << 32, 1<<63 + 1, last - 1, last}
	for range 4000 {
		l := m.First()
		for i := range l {
			l[i] = few[n.below(len(few))]
		}
		l = l[:len(l)-n.below(2)*n.below(len(l))]
		a, b := cells.New(l...), cells.New(l...)
		want := &saying{m: m, s: b, v: n.below(6) - 1, cycle: few[n.below(len(few))]}
		x := New(m, want.v, want.cycle)
		next, stop := iter.Pull(want.steps())
		for step := range 7 {
			if n.below(3) == 0 {
				at, word := places[n.below(len(places))], few[n.below(len(few))]
				a.Put(at, word)
				b.Put(at, word)
			}
			_, more := next()
			if x.Step(a) == more || x.Won() != want.won {
				t.Fatalf("%+v, step %d: Won is %v", want, step, x.Won())
			}
			if !slices.Equal(a.All(), b.All()) || a.Count() != b.Count() {
				t.Fatalf("%+v, step %d: memory is %v, not %v; %d accesses, not %d", want, step, a.All(), b.All(), a.Count(), b.Count())
			}
		}
		stop()
	}
}

// run is machines that try to mark nodes in a cycle, all in one memory.
type run struct {
	m        *layout.Map
	s        *cells.Store
	cycle    uint64
	work     uint64 // at first
	machines []*Machine
	nodes    []int // each machine's
	steps    []int // of each, how many it did
	ended    []bool
}

// from is a run of a machine for each of those nodes, whose marks are so at first.
func from(m *layout.Map, cycle uint64, marks []uint64, nodes []int) *run {
	l := m.First()
	l[m.Work()] = 3
	for i, mark := range marks {
		l[m.Mark(i+1)] = mark
	}
	r := &run{m: m, s: cells.New(l...), cycle: cycle, work: 3, nodes: nodes, steps: make([]int, len(nodes)), ended: make([]bool, len(nodes))}
	for _, v := range nodes {
		r.machines = append(r.machines, New(m, v, cycle))
	}
	return r
}

// step does a machine's next step; false: it is finished.
func (r *run) step(t *testing.T, who int) bool {
	t.Helper()
	if r.ended[who] {
		return false
	}
	if r.steps[who]++; r.steps[who] > 4 {
		t.Fatal("steps don't end")
	}
	r.ended[who] = r.machines[who].Step(r.s)
	wins := r.wins(t, 0)
	if work := r.s.Load(r.m.Work()); work < r.work+uint64(wins) {
		t.Errorf("Work is %d, with %d wins", work, wins)
	}
	return true
}

// wins is how many have marked a node; 0: any one.
func (r *run) wins(t *testing.T, v int) int {
	t.Helper()
	wins := 0
	for i, x := range r.machines {
		if x.Won() && (v == 0 || r.nodes[i] == v) {
			wins++
			if mark := r.s.Load(r.m.Mark(r.nodes[i])); mark != r.cycle {
				t.Errorf("the mark of node %d is %d", r.nodes[i], mark)
			}
		}
	}
	return wins
}

// all asks what there is when all are finished.
func (r *run) all(t *testing.T, marks []uint64) {
	t.Helper()
	for i, mark := range marks {
		v, want := i+1, 0
		if mark < r.cycle && slices.Contains(r.nodes, v) {
			want, mark = 1, r.cycle
		}
		if wins := r.wins(t, v); wins != want {
			t.Errorf("node %d was marked %d times, not %d", v, wins, want)
		}
		if got := r.s.Load(r.m.Mark(v)); got != mark {
			t.Errorf("the mark of node %d is %d, not %d", v, got, mark)
		}
	}
	if work, want := r.s.Load(r.m.Work()), r.work+uint64(r.wins(t, 0)); work != want {
		t.Errorf("Work is %d, not %d", work, want)
	}
}

// orders goes through all orders in which the machines' steps may come, each from
// the run's beginning on, and tells how many there are.
func orders(t *testing.T, begin func() *run, end func(r *run)) int {
	t.Helper()
	var whos []int // whose steps they are
	for many := 1; ; many++ {
		r := begin()
		for _, who := range whos {
			r.step(t, who)
		}
		for who := range r.machines {
			for r.step(t, who) {
				whos = append(whos, who)
			}
		}
		end(r)
		if t.Failed() {
			t.Errorf("in the order %v", whos)
			return many
		}
		if whos = next(whos, len(r.machines)); whos == nil {
			return many
		}
	}
}

// next is the beginning of the next order: up to the last step ahead of which a
// later machine could step, which does.
func next(whos []int, all int) []int {
	for i := len(whos) - 1; i >= 0; i-- {
		for who := whos[i] + 1; who < all; who++ {
			if slices.Contains(whos[i:], who) {
				return append(whos[:i], who)
			}
		}
	}
	return nil
}

// P12.3: all orders of two and three.
func TestOneWinsInAllOrders(t *testing.T) {
	m := chart(t, 2)
	for _, c := range []struct {
		cycle uint64
		marks []uint64
		nodes []int
		least int // how many orders there are, at least
	}{
		{1, []uint64{0, 0}, []int{1}, 1},
		{1, []uint64{0, 0}, []int{1, 1}, 20},
		{9, []uint64{8, 3}, []int{2, 2, 2}, 2000},
		{9, []uint64{8, 3}, []int{1, 2, 1}, 2000},
		{9, []uint64{9, 3}, []int{1, 1, 1}, 6},
		{9, []uint64{9, 10}, []int{2, 1, 2}, 6},
		{last, []uint64{last - 1, last}, []int{1, 1, 2}, 50},
	} {
		begin := func() *run { return from(m, c.cycle, c.marks, c.nodes) }
		many := orders(t, begin, func(r *run) { r.all(t, c.marks) })
		if many < c.least {
			t.Errorf("%+v: there were %d orders, not %d", c, many, c.least)
		}
	}
}

// P12.3: some orders of up to eight, for up to three nodes.
func TestOneWinsInSomeOrders(t *testing.T) {
	n := series(123)
	m := chart(t, 3)
	for range 3000 {
		cycle := uint64(1 + n.below(4))
		marks, nodes := make([]uint64, 3), make([]int, 1+n.below(8))
		for i := range marks {
			marks[i] = uint64(n.below(4))
		}
		for i := range nodes {
			nodes[i] = 1 + n.below(3)
		}
		r := from(m, cycle, marks, nodes)
		for slices.Contains(r.ended, false) {
			r.step(t, n.below(len(nodes)))
		}
		r.all(t, marks)
		if t.Failed() {
			t.Fatalf("cycle %d, marks %v, nodes %v", cycle, marks, nodes)
		}
	}
}
