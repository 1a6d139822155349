package layout

import (
	"math"
	"slices"
	"testing"

	"dustman/api"
	"dustman/sizes"
)

// series tells the same numbers each time, each from low to high.
type series uint64

func (s *series) from(low, high int) int {
	*s = *s*6364136223846793005 + 1442695040888963407
	return low + int(uint64(*s)>>33)%(high-low+1)
}

// small is the chapter's example.
func small() Config {
	return Config{Cells: [5]int{1, 0, 0, 0, 0}, Markers: 1, Mutators: 1, Deque: 2, Chunk: 1, Buffer: 1, Roots: 1, Sweep: 1}
}

// greatest has as much of all as may be.
func greatest() Config {
	return Config{Cells: [5]int{12, 12, 12, 12, 12}, Markers: 4, Mutators: 4, Deque: 8, Chunk: 16, Buffer: 4, Roots: 8, Sweep: 16}
}

// configs are the ends of what may be, and many between them.
func configs() []Config {
	l := []Config{small(), greatest()}
	for k := range api.Classes {
		for _, many := range []int{1, 2, 12} {
			c := greatest()
			c.Cells = [5]int{}
			c.Cells[k] = many
			l = append(l, c)
			c.Chunk, c.Sweep = 1, 1
			l = append(l, c)
		}
	}
	s := series(5)
	for len(l) < 200 {
		c := Config{
			Markers: s.from(1, 4), Mutators: s.from(1, 4), Deque: s.from(2, 8), Chunk: s.from(1, 16),
			Buffer: s.from(1, 4), Roots: s.from(1, 8), Sweep: s.from(1, 16),
		}
		for k := range c.Cells {
			c.Cells[k] = max(0, s.from(-6, 12))
		}
		if c.Cells != [5]int{} {
			l = append(l, c)
		}
	}
	return l
}

// made is the map of a configuration that may be.
func made(t *testing.T, c Config) *Map {
	t.Helper()
	m, e := New(c)
	if e != api.OK || m == nil {
		t.Fatalf("New(%+v) is %v, %v", c, m, e)
	}
	return m
}

// field is one of a configuration's numbers, and what it may be.
type field struct {
	name      string
	low, high int
	at        func(*Config) *int
}

func fields() []field {
	l := []field{
		{"Markers", 1, 4, func(c *Config) *int { return &c.Markers }},
		{"Mutators", 1, 4, func(c *Config) *int { return &c.Mutators }},
		{"Deque", 2, 8, func(c *Config) *int { return &c.Deque }},
		{"Chunk", 1, 16, func(c *Config) *int { return &c.Chunk }},
		{"Buffer", 1, 4, func(c *Config) *int { return &c.Buffer }},
		{"Roots", 1, 8, func(c *Config) *int { return &c.Roots }},
		{"Sweep", 1, 16, func(c *Config) *int { return &c.Sweep }},
	}
	for k := range api.Classes {
		l = append(l, field{"Cells", 0, 12, func(c *Config) *int { return &c.Cells[k] }})
	}
	return l
}

// P5.1
func TestEachNumberHasItsBounds(t *testing.T) {
	other := greatest()
	other.Cells = [5]int{3, 3, 3, 3, 3} // so one of them may be 0
	for _, base := range []Config{other, greatest()} {
		for _, f := range fields() {
			for _, n := range []int{math.MinInt, -1 << 32, -1, 0, 1, 2, 3, 4, 5, 7, 8, 9, 11, 12, 13, 15, 16, 17, 1 << 32, 1<<32 + 2, math.MaxInt} {
				c := base
				*f.at(&c) = n
				want := api.OK
				if n < f.low || n > f.high {
					want = api.ErrRange
				}
				if got := Check(c); got != want {
					t.Errorf("with %s %d Check is %v, not %v", f.name, n, got, want)
				}
				m, e := New(c)
				if e != want || (m == nil) != (want != api.OK) {
					t.Errorf("with %s %d New is %v, %v", f.name, n, m, e)
				}
				if e == api.OK && m.Config() != c {
					t.Errorf("Config is %+v, not %+v", m.Config(), c)
				}
			}
		}
	}
}

// P5.1
func TestOneClassHasCells(t *testing.T) {
	for _, cells := range [][5]int{{}, {-1, 1, 0, 0, 0}, {1, 0, 0, 0, -1}, {13, 0, 0, 0, 0}, {0, 0, 0, 0, 13}, {-1, -1, -1, -1, -1}, {math.MaxInt, math.MaxInt, 2, 0, 0}} {
		c := small()
		c.Cells = cells
		if m, e := New(c); m != nil || e != api.ErrRange || Check(c) != api.ErrRange {
			t.Errorf("of %v New is %v, %v", cells, m, e)
		}
	}
	for k := range api.Classes {
		c := small()
		c.Cells = [5]int{}
		c.Cells[k] = 1
		if Check(c) != api.OK || made(t, c).Config() != c {
			t.Errorf("one cell of class %d may not be", k)
		}
	}
	if m, e := New(Config{}); m != nil || e != api.ErrRange || Check(Config{}) != api.ErrRange {
		t.Errorf("of a zero one New is %v, %v", m, e)
	}
}

// P5.1
func TestAMapKeepsItsConfiguration(t *testing.T) {
	for _, c := range configs() {
		if got := made(t, c).Config(); got != c {
			t.Errorf("Config is %+v, not %+v", got, c)
		}
	}
	c := small()
	m := made(t, c)
	c.Cells[3], c.Deque = 7, 8
	told := m.Config()
	told.Cells[0], told.Sweep = 5, 5
	if m.Config() != small() || m.Len() != 51 {
		t.Errorf("a map changed with what was handed in, or told: %+v", m.Config())
	}
}

// P5.2
func TestTheExamplesPlaces(t *testing.T) {
	m := made(t, small())
	for _, c := range []struct {
		name      string
		got, want int
	}{
		{"Phase", m.Phase(), 0}, {"Work", m.Work(), 1}, {"Sweep", m.Sweep(), 2},
		{"Done", m.Done(), 3}, {"Pool", m.Pool(), 4}, {"Spare", m.Spare(), 5},
		{"Ack 0", m.Ack(0), 6}, {"Ack 1", m.Ack(1), -1}, {"Ack -1", m.Ack(-1), -1},
		{"Head 0", m.Head(0), 7}, {"Head 4", m.Head(4), 11}, {"Head 5", m.Head(5), -1}, {"Head -1", m.Head(-1), -1},
		{"Top 0", m.Top(0), 12}, {"Bottom 0", m.Bottom(0), 13}, {"Top 1", m.Top(1), -1}, {"Bottom -1", m.Bottom(-1), -1},
		{"Entry 0 0", m.Entry(0, 0), 14}, {"Entry 0 1", m.Entry(0, 1), 15}, {"Entry 0 2", m.Entry(0, 2), -1},
		{"Entry 0 -1", m.Entry(0, -1), -1}, {"Entry 1 0", m.Entry(1, 0), -1},
		{"Many 1", m.Many(1), 16}, {"Link 1", m.Link(1), 17}, {"Task 1 0", m.Task(1, 0), 18}, {"Task 1 3", m.Task(1, 3), 21},
		{"Task 1 4", m.Task(1, 4), -1}, {"Task 1 -1", m.Task(1, -1), -1}, {"Many 0", m.Many(0), -1}, {"Link 0", m.Link(0), -1},
		{"Many 2", m.Many(2), 22}, {"Task 5 3", m.Task(5, 3), 45}, {"Many 6", m.Many(6), -1}, {"Task 6 0", m.Task(6, 0), -1},
		{"Header 1", m.Header(1), 46}, {"State 1", m.State(1), 47}, {"Mark 1", m.Mark(1), 48}, {"Next 1", m.Next(1), 49},
		{"Slot 1 0", m.Slot(1, 0), 50}, {"Slot 1 1", m.Slot(1, 1), -1}, {"Slot 1 -1", m.Slot(1, -1), -1},
		{"Header 0", m.Header(0), -1}, {"State 2", m.State(2), -1}, {"Mark 0", m.Mark(0), -1}, {"Next 2", m.Next(2), -1},
		{"Slot 0 0", m.Slot(0, 0), -1}, {"Slot 2 0", m.Slot(2, 0), -1},
		{"Packets", m.Packets(), 5}, {"Len", m.Len(), 51},
	} {
		if c.got != c.want {
			t.Errorf("%s is %d, not %d", c.name, c.got, c.want)
		}
	}
}

// thing is a word by the name of its method and the numbers it takes.
type thing struct {
	name string
	i, j int
}

// listed is all words in the document's order, told one by one.
func listed(c Config) []thing {
	var l []thing
	for _, name := range []string{"Phase", "Work", "Sweep", "Done", "Pool", "Spare"} {
		l = append(l, thing{name, 0, 0})
	}
	for i := range c.Mutators {
		l = append(l, thing{"Ack", i, 0})
	}
	for k := range 5 {
		l = append(l, thing{"Head", k, 0})
	}
	for i := range c.Markers {
		l = append(l, thing{"Top", i, 0}, thing{"Bottom", i, 0})
		for j := range c.Deque {
			l = append(l, thing{"Entry", i, j})
		}
	}
	for p := range packetsOf(c) {
		l = append(l, thing{"Many", p + 1, 0}, thing{"Link", p + 1, 0})
		for j := range 4 {
			l = append(l, thing{"Task", p + 1, j})
		}
	}
	for i, k := range classes(c) {
		l = append(l, thing{"Header", i + 1, 0}, thing{"State", i + 1, 0}, thing{"Mark", i + 1, 0}, thing{"Next", i + 1, 0})
		for j := range sizes.Slots(k) {
			l = append(l, thing{"Slot", i + 1, j})
		}
	}
	return l
}

// classes is the class of each node, in order.
func classes(c Config) []int {
	var l []int
	for k, many := range c.Cells {
		for range many {
			l = append(l, k)
		}
	}
	return l
}

// packetsOf counts each node's pieces one by one.
func packetsOf(c Config) int {
	n := 2*c.Markers + c.Mutators
	for _, k := range classes(c) {
		n++
		for from := 0; from < sizes.Slots(k); from += c.Chunk {
			n++
		}
	}
	return n
}

// places are what each method tells of numbers round all that may be.
func places(m *Map) map[thing]int {
	told := map[thing]int{
		{"Phase", 0, 0}: m.Phase(), {"Work", 0, 0}: m.Work(), {"Sweep", 0, 0}: m.Sweep(),
		{"Done", 0, 0}: m.Done(), {"Pool", 0, 0}: m.Pool(), {"Spare", 0, 0}: m.Spare(),
	}
	ones := map[string]func(int) int{
		"Ack": m.Ack, "Head": m.Head, "Top": m.Top, "Bottom": m.Bottom, "Many": m.Many, "Link": m.Link,
		"Header": m.Header, "State": m.State, "Mark": m.Mark, "Next": m.Next,
	}
	twos := map[string]func(int, int) int{"Entry": m.Entry, "Task": m.Task, "Slot": m.Slot}
	for _, i := range asked(m.Packets() + 3) {
		for name, f := range ones {
			told[thing{name, i, 0}] = f(i)
		}
		for _, j := range asked(20) {
			for name, f := range twos {
				told[thing{name, i, j}] = f(i, j)
			}
		}
	}
	return told
}

// asked are the numbers from -9 to below high, and the ends of an int.
func asked(high int) []int {
	l := []int{math.MinInt, math.MinInt + 1, math.MinInt + 6, -1 << 32, 1 << 32, 1<<32 + 1, math.MaxInt - 6, math.MaxInt - 1, math.MaxInt}
	for i := -9; i < high; i++ {
		l = append(l, i)
	}
	return l
}

// P5.2
func TestPlacesAreInOrder(t *testing.T) {
	for _, c := range configs() {
		m := made(t, c)
		want := map[thing]int{}
		for at, x := range listed(c) {
			want[x] = at
		}
		if m.Len() != len(want) {
			t.Fatalf("of %+v Len is %d, not %d", c, m.Len(), len(want))
		}
		for x, got := range places(m) {
			at, ok := want[x]
			if !ok {
				at = -1
			}
			if got != at {
				t.Fatalf("of %+v %v is %d, not %d", c, x, got, at)
			}
		}
	}
}

// P5.3
func TestHowManyThereAre(t *testing.T) {
	for _, c := range configs() {
		m := made(t, c)
		nodes := len(classes(c))
		parts := 0
		for v := 1; v <= nodes; v += c.Sweep {
			parts++
		}
		if m.Nodes() != nodes || m.Packets() != packetsOf(c) || m.Parts() != parts {
			t.Errorf("of %+v there are %d nodes, %d packets, %d parts, not %d, %d, %d", c, m.Nodes(), m.Packets(), m.Parts(), nodes, packetsOf(c), parts)
		}
	}
}

// P5.3
func TestPacketsOfPieces(t *testing.T) {
	for _, c := range []struct {
		cells [5]int
		chunk int
		want  int
	}{
		{[5]int{1, 0, 0, 0, 0}, 1, 5}, {[5]int{1, 0, 0, 0, 0}, 16, 5},
		{[5]int{0, 0, 0, 0, 1}, 1, 20}, {[5]int{0, 0, 0, 0, 1}, 16, 5}, {[5]int{0, 0, 0, 0, 1}, 15, 6},
		{[5]int{0, 0, 0, 0, 1}, 8, 6}, {[5]int{0, 0, 0, 0, 1}, 7, 7}, {[5]int{0, 0, 0, 0, 1}, 5, 8},
		{[5]int{2, 0, 1, 0, 0}, 2, 10}, {[5]int{2, 0, 1, 0, 0}, 3, 10}, {[5]int{2, 0, 1, 0, 0}, 4, 9},
		{[5]int{12, 12, 12, 12, 12}, 16, 123}, {[5]int{12, 12, 12, 12, 12}, 1, 435},
	} {
		k := small()
		k.Cells, k.Chunk = c.cells, c.chunk
		if got := made(t, k).Packets(); got != c.want {
			t.Errorf("of %v by %d there are %d packets, not %d", c.cells, c.chunk, got, c.want)
		}
	}
}

// P5.3
func TestPartsHaveEachNodeOnce(t *testing.T) {
	for _, c := range configs() {
		m := made(t, c)
		next := 1
		for j := range m.Parts() {
			first, last := m.Part(j)
			if first != j*c.Sweep+1 || first != next || last != min(j*c.Sweep+c.Sweep, m.Nodes()) || last < first {
				t.Fatalf("of %+v part %d is %d to %d", c, j, first, last)
			}
			next = last + 1
		}
		if next != m.Nodes()+1 {
			t.Fatalf("of %+v the parts end at %d, not %d", c, next-1, m.Nodes())
		}
		for _, j := range []int{math.MinInt, -1 << 60, -2, -1, m.Parts(), m.Parts() + 1, 1 << 60, math.MaxInt} {
			if first, last := m.Part(j); first != 0 || last != -1 {
				t.Fatalf("part %d of %d is %d to %d", j, m.Parts(), first, last)
			}
		}
	}
}

// P5.3
func TestPartsOfExamples(t *testing.T) {
	c := small()
	c.Cells = [5]int{2, 0, 1, 0, 2}
	for _, x := range []struct {
		sweep int
		want  [][2]int
	}{
		{1, [][2]int{{1, 1}, {2, 2}, {3, 3}, {4, 4}, {5, 5}}},
		{2, [][2]int{{1, 2}, {3, 4}, {5, 5}}},
		{4, [][2]int{{1, 4}, {5, 5}}},
		{5, [][2]int{{1, 5}}},
		{16, [][2]int{{1, 5}}},
	} {
		c.Sweep = x.sweep
		m := made(t, c)
		var got [][2]int
		for j := range m.Parts() {
			first, last := m.Part(j)
			got = append(got, [2]int{first, last})
		}
		if !slices.Equal(got, x.want) {
			t.Errorf("by %d the parts are %v, not %v", x.sweep, got, x.want)
		}
	}
}

// P5.3
func TestClassAndRoomOfANode(t *testing.T) {
	for _, c := range configs() {
		m := made(t, c)
		all := classes(c)
		for _, v := range asked(70) {
			class, room := -1, 0
			if v >= 1 && v <= len(all) {
				class = all[v-1]
				room = []int{1, 2, 4, 8, 16}[class]
			}
			if m.Class(v) != class || m.Room(v) != room {
				t.Fatalf("of %v node %d has class %d and room %d, not %d and %d", c.Cells, v, m.Class(v), m.Room(v), class, room)
			}
		}
	}
}

// firstOf is what memory has at first, word by word from the document.
func firstOf(c Config, m *Map) map[int]uint64 {
	want := map[int]uint64{}
	all := classes(c)
	common := len(all)
	want[m.State(common)] = 1
	want[m.Header(common)] = uint64(sizes.Slots(all[common-1]))
	last := [5]int{}
	for i, k := range all[:common-1] {
		if last[k] == 0 {
			want[m.Head(k)] = uint64(i + 1)
		} else {
			want[m.Next(last[k])] = uint64(i + 1)
		}
		last[k] = i + 1
	}
	want[m.Spare()] = 1
	for p := 1; p < packetsOf(c); p++ {
		want[m.Link(p)] = uint64(p + 1)
	}
	return want
}

// P5.4
func TestFirst(t *testing.T) {
	for _, c := range configs() {
		m := made(t, c)
		l := m.First()
		if len(l) != m.Len() || m.Common() != len(classes(c)) {
			t.Fatalf("of %+v there are %d words, and %d is the common node", c, len(l), m.Common())
		}
		want := firstOf(c, m)
		for at, w := range l {
			if w != want[at] {
				t.Fatalf("of %+v word %d is %d, not %d", c, at, w, want[at])
			}
		}
	}
}

// P5.4
func TestFirstOfTheExample(t *testing.T) {
	m := made(t, small())
	want := make([]uint64, 51)
	want[46], want[47] = 1, 1 // the common node's Header and State
	want[5] = 1
	want[17], want[23], want[29], want[35] = 2, 3, 4, 5
	if l := m.First(); !slices.Equal(l, want) || m.Common() != 1 {
		t.Errorf("First is %v, and %d the common node", l, m.Common())
	}
}

// P5.4
func TestTheCommonNodeIsNotFree(t *testing.T) {
	c := small()
	c.Cells = [5]int{0, 3, 0, 3, 0}
	m := made(t, c)
	l := m.First()
	for _, x := range []struct {
		name string
		at   int
		want uint64
	}{
		{"Head 0", m.Head(0), 0}, {"Head 1", m.Head(1), 1}, {"Head 2", m.Head(2), 0}, {"Head 3", m.Head(3), 4}, {"Head 4", m.Head(4), 0},
		{"Next 1", m.Next(1), 2}, {"Next 2", m.Next(2), 3}, {"Next 3", m.Next(3), 0},
		{"Next 4", m.Next(4), 5}, {"Next 5", m.Next(5), 0}, {"Next 6", m.Next(6), 0},
		{"State 5", m.State(5), 0}, {"State 6", m.State(6), 1}, {"Header 5", m.Header(5), 0}, {"Header 6", m.Header(6), 8},
		{"Mark 6", m.Mark(6), 0}, {"Slot 6 0", m.Slot(6, 0), 0},
	} {
		if l[x.at] != x.want {
			t.Errorf("%s has %d, not %d", x.name, l[x.at], x.want)
		}
	}
}

// P5.4
func TestFirstIsNewMemory(t *testing.T) {
	m := made(t, greatest())
	l := m.First()
	want := slices.Clone(l)
	for i := range l {
		l[i] = 77
	}
	if !slices.Equal(m.First(), want) {
		t.Error("First changed with what it answered")
	}
}

// P5.4
func TestNil(t *testing.T) {
	var m *Map
	for _, i := range []int{math.MinInt, -1, 0, 1, 2, math.MaxInt} {
		for x, at := range map[thing]int{
			{"Phase", 0, 0}: m.Phase(), {"Work", 0, 0}: m.Work(), {"Sweep", 0, 0}: m.Sweep(),
			{"Done", 0, 0}: m.Done(), {"Pool", 0, 0}: m.Pool(), {"Spare", 0, 0}: m.Spare(),
			{"Ack", i, 0}: m.Ack(i), {"Head", i, 0}: m.Head(i), {"Top", i, 0}: m.Top(i), {"Bottom", i, 0}: m.Bottom(i),
			{"Many", i, 0}: m.Many(i), {"Link", i, 0}: m.Link(i), {"Header", i, 0}: m.Header(i), {"State", i, 0}: m.State(i),
			{"Mark", i, 0}: m.Mark(i), {"Next", i, 0}: m.Next(i),
			{"Entry", i, 0}: m.Entry(i, 0), {"Task", i, 0}: m.Task(i, 0), {"Slot", i, 0}: m.Slot(i, 0),
			{"Entry", 0, i}: m.Entry(0, i), {"Task", 1, i}: m.Task(1, i), {"Slot", 1, i}: m.Slot(1, i),
		} {
			if at != -1 {
				t.Errorf("of nil %v is %d", x, at)
			}
		}
		if first, last := m.Part(i); first != 0 || last != -1 || m.Class(i) != -1 || m.Room(i) != 0 {
			t.Errorf("of nil part %d is %d to %d, its class %d, its room %d", i, first, last, m.Class(i), m.Room(i))
		}
	}
	if m.Len() != 0 || m.Nodes() != 0 || m.Packets() != 0 || m.Parts() != 0 || m.Common() != 0 || len(m.First()) != 0 || m.Config() != (Config{}) {
		t.Error("nil has something")
	}
}

// P5.5
func TestEachPlaceIsOneThings(t *testing.T) {
	for _, c := range configs() {
		m := made(t, c)
		whose := map[int]thing{}
		for x, at := range places(m) {
			if at == -1 {
				continue
			}
			if other, ok := whose[at]; ok {
				t.Fatalf("of %+v place %d is of %v and %v", c, at, other, x)
			}
			if at < 0 || at >= m.Len() {
				t.Fatalf("of %+v %v is at %d of %d", c, x, at, m.Len())
			}
			whose[at] = x
		}
		if len(whose) != m.Len() {
			t.Fatalf("of %+v %d of %d places are something's", c, len(whose), m.Len())
		}
	}
}
