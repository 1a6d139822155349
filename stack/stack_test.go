package stack

import (
	"math"
	"slices"
	"testing"

	"dustman/cells"
	"dustman/words"
)

const (
	head = 1              // where most tests have their stack's head
	most = math.MaxUint32 // the last thing, and the last number of turns
	last = math.MaxUint64
)

// at has the links behind the head; the words at 0 and 2 are no part of the stack.
func at(item int) int { return 2 + item }

// memory is a stack there, between words that nobody changes.
func memory(turns, first uint32, links ...uint64) *cells.Store {
	return cells.New(slices.Concat([]uint64{90, words.Pair(turns, first), 91}, links, []uint64{92})...)
}

// has asks that memory has that stack.
func has(t *testing.T, s *cells.Store, turns, first uint32, links ...uint64) {
	t.Helper()
	if got, want := s.All(), memory(turns, first, links...).All(); !slices.Equal(got, want) {
		t.Errorf("memory is %v, not %v", got, want)
	}
}

// is asks what a machine tells.
func is(t *testing.T, m *Machine, item, tries int) {
	t.Helper()
	if m.Item() != item || m.Tries() != tries {
		t.Errorf("Item is %d, Tries %d, not %d, %d", m.Item(), m.Tries(), item, tries)
	}
}

// goes does a step that isn't the last one.
func goes(t *testing.T, m *Machine, s *cells.Store, tries int) {
	t.Helper()
	count := s.Count()
	if m.Step(s) {
		t.Error("Step is true ahead of the last one")
	}
	if s.Count() != count+1 {
		t.Errorf("Step did %d accesses", s.Count()-count)
	}
	is(t, m, 0, tries)
}

// ended does the last step, and further ones behind it, which do nothing.
func ended(t *testing.T, m *Machine, s *cells.Store, item, tries int) {
	t.Helper()
	count := s.Count()
	if !m.Step(s) {
		t.Error("Step is false at the last one")
	}
	if s.Count() != count+1 {
		t.Errorf("the last Step did %d accesses", s.Count()-count)
	}
	is(t, m, item, tries)
	stays(t, m, s, item, tries)
}

// stays asks that a machine that is finished does nothing more.
func stays(t *testing.T, m *Machine, s *cells.Store, item, tries int) {
	t.Helper()
	l, count := s.All(), s.Count()
	for range 3 {
		if !m.Step(s) {
			t.Error("Step is false behind the last one")
		}
		is(t, m, item, tries)
	}
	if s.Count() != count || !slices.Equal(s.All(), l) {
		t.Error("Step did something behind the last one")
	}
}

// takes does all steps of a machine that nobody is ahead of, which are so many.
func takes(t *testing.T, m *Machine, s *cells.Store, steps, item int) {
	t.Helper()
	is(t, m, 0, 0)
	for range steps - 1 {
		goes(t, m, s, 1)
	}
	ended(t, m, s, item, 1)
}

// walks asks what Walk tells of the stack there.
func walks(t *testing.T, l []uint64, many int, want ...int) {
	t.Helper()
	if got := Walk(l, head, at, many); !slices.Equal(got, want) {
		t.Errorf("Walk of %d of %v is %v, not %v", many, l, got, want)
	}
}

// The chapter's example.
func TestTheExample(t *testing.T) {
	s := memory(0, 0, 0, 0, 0)
	takes(t, Push(head, at, 3), s, 3, 3)
	has(t, s, 1, 3, 0, 0, 0)
	takes(t, Pop(head, at), s, 3, 3)
	has(t, s, 2, 0, 0, 0, 0)
	takes(t, Pop(head, at), s, 1, 0)
	has(t, s, 2, 0, 0, 0, 0)
}

// P9.1
func TestPushStepByStep(t *testing.T) {
	s := memory(5, 2, 70, 71, 72)
	m := Push(head, at, 3)
	is(t, m, 0, 0)
	goes(t, m, s, 1)
	has(t, s, 5, 2, 70, 71, 72)
	goes(t, m, s, 1)
	has(t, s, 5, 2, 70, 71, 2)
	ended(t, m, s, 3, 1)
	has(t, s, 6, 3, 70, 71, 2)
}

// P9.1, P9.3
func TestPushOfItems(t *testing.T) {
	for _, c := range []struct {
		item  int
		thing uint32
	}{
		{1, 1},
		{2, 2},
		{1 << 31, 1 << 31},
		{most - 1, most - 1},
		{most, most},
		{0, 0},
		{-1, 0},
		{-2, 0},
		{-most, 0},
		{math.MinInt, 0},
		{math.MinInt + 5, 0},
		{most + 1, 0},
		{most + 2, 0},
		{1<<33 + 7, 0},
		{math.MaxInt, 0},
	} {
		var asked []int
		links := func(item int) int {
			asked = append(asked, item)
			return 3
		}
		s := memory(8, 6, 70, 71)
		takes(t, Push(head, links, c.item), s, 3, int(c.thing))
		has(t, s, 9, c.thing, 6, 71)
		for _, item := range asked {
			if item != int(c.thing) {
				t.Errorf("Push of %d asked for the link of %d", c.item, item)
			}
		}
	}
}

// P9.1: the link is the head's low number, whatever that is.
func TestPushLinksTheFirstThing(t *testing.T) {
	for _, first := range []uint32{0, 1, 2, 1 << 31, most - 1, most} {
		s := memory(4, first, 70, 71)
		takes(t, Push(head, at, 2), s, 3, 2)
		has(t, s, 5, 2, 70, uint64(first))
	}
}

// P9.1, P9.2: turns go round.
func TestTurns(t *testing.T) {
	for _, turns := range []uint32{0, 1, 1<<31 - 1, 1 << 31, most - 1, most} {
		s := memory(turns, 1, 0, 71)
		takes(t, Push(head, at, 2), s, 3, 2)
		has(t, s, turns+1, 2, 0, 1)
		takes(t, Pop(head, at), s, 3, 2)
		has(t, s, turns+2, 1, 0, 1)
		takes(t, Pop(head, at), s, 3, 1)
		has(t, s, turns+3, 0, 0, 1)
	}
}

// P9.1, P9.3
func TestPushIsTriedAgain(t *testing.T) {
	s := memory(5, 2, 70, 71, 72)
	m := Push(head, at, 3)
	goes(t, m, s, 1)
	s.Put(head, words.Pair(6, 1)) // ahead of (2): the link is what was seen
	goes(t, m, s, 1)
	has(t, s, 6, 1, 70, 71, 2)
	goes(t, m, s, 1)
	has(t, s, 6, 1, 70, 71, 2)
	goes(t, m, s, 2)
	has(t, s, 6, 1, 70, 71, 2)
	goes(t, m, s, 2)
	has(t, s, 6, 1, 70, 71, 1)
	s.Put(head, words.Pair(7, 1)) // it has turned, though its first thing is the same
	goes(t, m, s, 2)
	s.Put(head, words.Pair(7, 0)) // ahead of (1) all that is done is seen
	goes(t, m, s, 3)
	goes(t, m, s, 3)
	has(t, s, 7, 0, 70, 71, 0)
	s.Put(head, words.Pair(7, 1)) // another first thing, though it hasn't turned
	goes(t, m, s, 3)
	for tries := 4; tries < 40; tries++ {
		goes(t, m, s, tries)
		goes(t, m, s, tries)
		s.Put(head, words.Pair(uint32(tries)+100, 2))
		goes(t, m, s, tries)
	}
	goes(t, m, s, 40)
	goes(t, m, s, 40)
	ended(t, m, s, 3, 40)
	has(t, s, 140, 3, 70, 71, 2)
}

// P9.1: what is done to the link behind (2) isn't seen, nor what is done and undone to the head.
func TestPushSeesTheHeadAlone(t *testing.T) {
	s := memory(5, 2, 70, 71, 72)
	m := Push(head, at, 3)
	goes(t, m, s, 1)
	s.Put(head, 0)
	goes(t, m, s, 1)
	s.Put(at(3), 80)
	s.Put(head, words.Pair(5, 2))
	ended(t, m, s, 3, 1)
	has(t, s, 6, 3, 70, 71, 80)
}

// P9.2
func TestPopStepByStep(t *testing.T) {
	s := memory(5, 2, 70, 3, 72)
	m := Pop(head, at)
	is(t, m, 0, 0)
	goes(t, m, s, 1)
	has(t, s, 5, 2, 70, 3, 72)
	goes(t, m, s, 1)
	has(t, s, 5, 2, 70, 3, 72)
	ended(t, m, s, 2, 1)
	has(t, s, 6, 3, 70, 3, 72)
}

// P9.2: a link counts by its rest.
func TestPopOfLinks(t *testing.T) {
	for _, link := range []uint64{0, 1, 2, 1 << 31, most, most + 1, most + 3, 7<<32 + 9, 1 << 63, last - 1, last} {
		s := memory(5, 1, link, 71)
		takes(t, Pop(head, at), s, 3, 1)
		has(t, s, 6, uint32(link%(most+1)), link, 71)
	}
}

// P9.2, P9.3
func TestPopOfThings(t *testing.T) {
	for _, thing := range []uint32{1, 2, 1 << 31, most - 1, most} {
		var asked []int
		links := func(item int) int {
			asked = append(asked, item)
			return 4
		}
		s := memory(5, thing, 70, 1)
		takes(t, Pop(head, links), s, 3, int(thing))
		has(t, s, 6, 1, 70, 1)
		for _, item := range asked {
			if item != int(thing) {
				t.Errorf("Pop of %d asked for the link of %d", thing, item)
			}
		}
	}
}

// P9.2: of an empty stack, whatever its turns are.
func TestPopOfNone(t *testing.T) {
	for _, turns := range []uint32{0, 1, 7, 1 << 31, most} {
		s := memory(turns, 0, 70, 71)
		takes(t, Pop(head, at), s, 1, 0)
		has(t, s, turns, 0, 70, 71)
	}
	s := memory(5, 0, 70)
	m := Pop(head, at)
	s.Put(head, words.Pair(6, 1)) // ahead of (1)
	goes(t, m, s, 1)
	s = memory(5, 1, 70)
	m = Pop(head, at)
	s.Put(head, words.Pair(6, 0))
	ended(t, m, s, 0, 1)
	s.Put(head, words.Pair(7, 1)) // behind it
	stays(t, m, s, 0, 1)
	has(t, s, 7, 1, 70)
}

// P9.2, P9.3
func TestPopIsTriedAgain(t *testing.T) {
	s := memory(5, 2, 0, 3, 1)
	m := Pop(head, at)
	goes(t, m, s, 1)
	s.Put(head, words.Pair(6, 3)) // ahead of (2): the link is that of what was seen
	goes(t, m, s, 1)
	goes(t, m, s, 1)
	has(t, s, 6, 3, 0, 3, 1)
	goes(t, m, s, 2)
	goes(t, m, s, 2)
	s.Put(head, words.Pair(6, 2)) // another first thing, though it hasn't turned
	goes(t, m, s, 2)
	has(t, s, 6, 2, 0, 3, 1)
	s.Put(head, words.Pair(7, 3)) // ahead of (1) all that is done is seen
	goes(t, m, s, 3)
	goes(t, m, s, 3)
	s.Put(head, words.Pair(8, 3)) // it has turned, though its first thing is the same
	goes(t, m, s, 3)
	for tries := 4; tries < 40; tries++ {
		goes(t, m, s, tries)
		goes(t, m, s, tries)
		s.Put(head, words.Pair(uint32(tries)+100, 3))
		goes(t, m, s, tries)
	}
	goes(t, m, s, 40)
	goes(t, m, s, 40)
	ended(t, m, s, 3, 40)
	has(t, s, 140, 1, 0, 3, 1)
}

// P9.2, P9.3
func TestPopIsTriedAgainAndFindsNone(t *testing.T) {
	s := memory(5, 1, 0)
	m := Pop(head, at)
	goes(t, m, s, 1)
	goes(t, m, s, 1)
	s.Put(head, words.Pair(6, 0))
	goes(t, m, s, 1)
	ended(t, m, s, 0, 2)
	has(t, s, 6, 0, 0)
}

// P9.2: the link is seen at (2), and once.
func TestPopSeesTheLinkOnce(t *testing.T) {
	s := memory(5, 2, 0, 3, 0)
	m := Pop(head, at)
	goes(t, m, s, 1)
	s.Put(at(2), 1)
	goes(t, m, s, 1)
	s.Put(at(2), 80)
	ended(t, m, s, 2, 1)
	has(t, s, 6, 1, 0, 80, 0)
}

// P9.2: one thinks that 2 is behind 3; others take both, and put 3 back.
func TestPopOfOneThatIsBackAgain(t *testing.T) {
	s := memory(0, 3, 0, 1, 2)
	m := Pop(head, at)
	goes(t, m, s, 1)
	goes(t, m, s, 1)
	takes(t, Pop(head, at), s, 3, 3)
	takes(t, Pop(head, at), s, 3, 2)
	takes(t, Push(head, at, 3), s, 3, 3)
	has(t, s, 3, 3, 0, 1, 1)
	goes(t, m, s, 1)
	has(t, s, 3, 3, 0, 1, 1)
	goes(t, m, s, 2)
	goes(t, m, s, 2)
	ended(t, m, s, 3, 2)
	has(t, s, 4, 1, 0, 1, 1)
}

// P9.1, P9.2, P9.4: what is put last is taken first.
func TestTheLastOneIsTakenFirst(t *testing.T) {
	const many = 50
	s := memory(0, 0, make([]uint64, many)...)
	var things []int
	for i := range many {
		thing := 1 + i*17%many
		things = slices.Insert(things, 0, thing)
		takes(t, Push(head, at, thing), s, 3, thing)
		walks(t, s.All(), many, things...)
	}
	for i, thing := range things {
		takes(t, Pop(head, at), s, 3, thing)
		walks(t, s.All(), many, things[i+1:]...)
	}
	takes(t, Pop(head, at), s, 1, 0)
}

// P9.3
func TestNil(t *testing.T) {
	var m *Machine
	s := memory(5, 1, 0)
	for range 3 {
		if !m.Step(s) || !m.Step(nil) {
			t.Error("Step of nil is false")
		}
		is(t, m, 0, 0)
	}
	has(t, s, 5, 1, 0)
	if s.Count() != 0 {
		t.Errorf("Step of nil did %d accesses", s.Count())
	}
}

// P9.3: without memory there are noughts, and no swap is true.
func TestNilMemory(t *testing.T) {
	m := Push(head, at, 1)
	for step := range 30 {
		if m.Step(nil) {
			t.Error("Push without memory is finished")
		}
		is(t, m, 0, step/3+1)
	}
	m = Pop(head, at)
	if !m.Step(nil) || !m.Step(nil) {
		t.Error("Pop without memory isn't finished")
	}
	is(t, m, 0, 1)
}

// P9.3: what is made anew is told of its own steps alone.
func TestEachMachineIsItsOwn(t *testing.T) {
	s := memory(0, 0, 0, 0)
	a, b := Push(head, at, 1), Push(head, at, 2)
	takes(t, a, s, 3, 1)
	is(t, b, 0, 0)
	takes(t, b, s, 3, 2)
	c, d := Pop(head, at), Pop(head, at)
	takes(t, d, s, 3, 2)
	is(t, c, 0, 0)
	takes(t, c, s, 3, 1)
	is(t, a, 1, 1)
	is(t, b, 2, 1)
	is(t, d, 2, 1)
}

// P9.1, P9.2: stacks of one memory, with heads and links of their own.
func TestEachStackIsItsOwn(t *testing.T) {
	s := cells.New(make([]uint64, 8)...)
	front := func(item int) int { return item }
	back := func(item int) int { return 8 - item }
	takes(t, Push(0, front, 1), s, 3, 1)
	takes(t, Push(4, back, 1), s, 3, 1)
	takes(t, Push(0, front, 3), s, 3, 3)
	takes(t, Push(4, back, 2), s, 3, 2)
	if l := s.All(); !slices.Equal(Walk(l, 0, front, 9), []int{3, 1}) || !slices.Equal(Walk(l, 4, back, 9), []int{2, 1}) {
		t.Errorf("memory is %v", l)
	}
	takes(t, Pop(4, back), s, 3, 2)
	takes(t, Pop(0, front), s, 3, 3)
	takes(t, Pop(0, front), s, 3, 1)
	takes(t, Pop(0, front), s, 1, 0)
	takes(t, Pop(4, back), s, 3, 1)
	takes(t, Pop(4, back), s, 1, 0)
}

// none are places that aren't there in a memory of five words.
func none() []int { return []int{-1, -2, math.MinInt, 5, 6, 1 << 32, math.MaxInt} }

// Chapter 6's words: a head that isn't there has 0, and no swap of it is true.
func TestHeadsThatArentThere(t *testing.T) {
	for _, place := range none() {
		s := memory(5, 1, 70)
		takes(t, Pop(place, at), s, 1, 0)
		m := Push(place, at, 1)
		for step := range 30 {
			goes(t, m, s, step/3+1)
		}
		has(t, s, 5, 1, 0)
		if l := Walk(s.All(), place, at, 9); len(l) > 0 {
			t.Errorf("Walk of no head is %v", l)
		}
	}
}

// Chapter 6's words: a link that isn't there has 0, and is not changed.
func TestLinksThatArentThere(t *testing.T) {
	for _, place := range none() {
		nowhere(t, func(item int) int { return place })
	}
}

// Rule 1: nothing panics, whatever is handed in.
func TestLinksThatTellNoPlace(t *testing.T) {
	nowhere(t, nil)
	nowhere(t, func(item int) int { panic("no place") })
	nowhere(t, func(item int) int { return []int{}[item] })
}

// nowhere asks that things are put, and taken, whose links stand nowhere.
func nowhere(t *testing.T, links Links) {
	t.Helper()
	s := memory(5, 1, 70)
	takes(t, Push(head, links, 2), s, 3, 2)
	has(t, s, 6, 2, 70)
	if l := Walk(s.All(), head, links, 9); !slices.Equal(l, []int{2}) {
		t.Errorf("Walk is %v, not 2 alone", l)
	}
	takes(t, Pop(head, links), s, 3, 2)
	has(t, s, 7, 0, 70)
	takes(t, Pop(head, links), s, 1, 0)
}

// P9.4
func TestWalk(t *testing.T) {
	l := memory(9, 2, 0, 3, 1).All()
	walks(t, l, 9, 2, 3, 1)
	walks(t, l, 4, 2, 3, 1)
	walks(t, l, 3, 2, 3, 1)
	walks(t, l, 2, 2, 3)
	walks(t, l, 1, 2)
	for _, many := range []int{0, -1, -3, math.MinInt} {
		walks(t, l, many)
	}
	walks(t, l, math.MaxInt, 2, 3, 1)
	for _, turns := range []uint32{0, 1, most} {
		walks(t, memory(turns, 0, 0, 3, 1).All(), 9)
	}
}

// P9.4: links, as the head, are told by their rest.
func TestWalkOfLinksRests(t *testing.T) {
	walks(t, memory(most, 2, 5<<32, 7<<32+3, 1<<63+1).All(), 9, 2, 3, 1)
	walks(t, memory(0, 1, last-most+2, 1<<32).All(), 9, 1, 2)
}

// P9.4: a thing whose link's place isn't there is told, and is the last one.
func TestWalkEndsWhereALinkIsnt(t *testing.T) {
	walks(t, memory(1, 2, 0, 5, 1).All(), 9, 2, 5) // 5's link would stand behind the last word
	walks(t, memory(1, 2, 0, 4, 1).All(), 3, 2, 4, 92)
	walks(t, memory(1, most).All(), 9, most)
	walks(t, memory(1, 2, 0, last).All(), 9, 2, most)
	l := memory(1, 2, 0, 3, 1).All()
	for end, want := range [][]int{nil, nil, {2}, {2}, {2}, {2, 3}, {2, 3, 1}} {
		walks(t, l[:end], 9, want...)
	}
	for _, place := range []int{-1, math.MinInt, len(l), math.MaxInt} {
		if got := Walk(l, place, at, 9); len(got) > 0 {
			t.Errorf("Walk of a head at %d is %v", place, got)
		}
		if got := Walk(l, head, func(item int) int { return place }, 9); !slices.Equal(got, []int{2}) {
			t.Errorf("Walk of links at %d is %v", place, got)
		}
	}
	walks(t, nil, 9)
	if got := Walk(nil, 0, nil, 9); len(got) > 0 {
		t.Errorf("Walk of nothing is %v", got)
	}
}

// P9.4: where links lead round, so many are told as are asked for.
func TestWalkGoesRound(t *testing.T) {
	walks(t, memory(1, 1, 1).All(), 4, 1, 1, 1, 1)
	walks(t, memory(1, 2, 3, 1, 2).All(), 7, 2, 1, 3, 2, 1, 3, 2)
	if got := Walk(memory(1, 1, 2, 1).All(), head, at, 100000); len(got) != 100000 {
		t.Errorf("Walk round told %d, not 100000", len(got))
	}
}

// P9.4, and rule 3.
func TestWalkIsInNewMemory(t *testing.T) {
	l := memory(9, 2, 0, 3, 1).All()
	was := slices.Clone(l)
	got := Walk(l, head, at, 9)
	if !slices.Equal(l, was) {
		t.Errorf("memory is %v, not %v", l, was)
	}
	got[0], got[1], got[2] = 50, 51, 52
	_ = append(got, 53)
	walks(t, l, 9, 2, 3, 1)
	if !slices.Equal(l, was) {
		t.Errorf("memory is %v, not %v", l, was)
	}
}

// series tells the same numbers each time, each from 0 on and below an end.
type series uint64

func (s *series) below(end int) int {
	*s = *s*6364136223846793005 + 1442695040888963407
	return int(uint64(*s)>>33) % end
}

// saying is a machine as the chapter's words have it: the number of the step that
// is next, 0 behind the last one.
type saying struct {
	push        bool
	step        int
	head        int
	at          Links
	thing       int
	h, n        uint64
	item, tries int
}

func (m *saying) swap(s *cells.Store, low uint64) {
	if s.Swap(m.head, m.h, (m.h>>32+1)<<32|low&most) {
		m.step, m.item = 0, m.thing
	} else {
		m.step = 1
	}
}

func (m *saying) do(s *cells.Store) {
	step := m.step
	m.step++
	switch {
	case step == 1:
		m.h = s.Load(m.head)
		m.tries++
		if !m.push {
			m.thing = int(m.h & most)
		}
		if m.thing == 0 && !m.push {
			m.step = 0
		}
	case step == 2 && m.push:
		s.Put(m.at(m.thing), m.h&most)
	case step == 2:
		m.n = s.Load(m.at(m.thing))
	case step == 3 && m.push:
		m.swap(s, uint64(m.thing))
	case step == 3:
		m.swap(s, m.n)
	}
}

// P9.1, P9.2, P9.3: against the chapter's words, whatever others do between the
// steps, and wherever the head and the links stand, on each other too.
func TestAgainstTheWords(t *testing.T) {
	n := series(9)
	for range 6000 {
		few := []uint64{0, 1, 2, 3, most, most + 1, most + 2, last - most, last - 1, last}
		l := make([]uint64, 1+n.below(6))
		for i := range l {
			l[i] = few[n.below(len(few))]
		}
		a, b := cells.New(l...), cells.New(l...)
		place := func() int { return n.below(len(l)+2) - 1 }
		first, every := place(), 1+n.below(3)
		links := func(item int) int { return first + item/every%8 }
		want := &saying{push: n.below(2) == 0, step: 1, head: place(), at: links}
		m := Pop(want.head, links)
		if want.push {
			want.thing = n.below(5)
			m = Push(want.head, links, want.thing)
		}
		for step := 1; want.step > 0 && step < 30; step++ {
			if n.below(3) == 0 {
				place, word := place(), few[n.below(len(few))]
				a.Put(place, word)
				b.Put(place, word)
			}
			want.do(b)
			done := m.Step(a)
			if done != (want.step == 0) || m.Item() != want.item || m.Tries() != want.tries {
				t.Fatalf("%+v, step %d: %v, %d, %d", want, step, done, m.Item(), m.Tries())
			}
			if !slices.Equal(a.All(), b.All()) || a.Count() != b.Count() {
				t.Fatalf("%+v, step %d: memory is %v, not %v; %d accesses, not %d", want, step, a.All(), b.All(), a.Count(), b.Count())
			}
		}
	}
}

// What an actor does.
const (
	push = iota // it puts what it has had for longest; if it has nothing, it doesn't
	pop
)

// actor does machines of some kinds, one behind the other.
type actor struct {
	kinds []int
	has   []int // things that are its alone
	m     *Machine
}

// run is a stack, and those who use it.
type run struct {
	s      *cells.Store
	things int
	stack  []int // what it should have, the first one at the end
	actors []*actor
	steps  int
	none   int // how many machines took nothing
	again  int // how often one began again
}

// from is a run of an empty stack of so many turns, with things that nobody has.
func from(turns uint32, things int) *run {
	return &run{s: memory(turns, 0, make([]uint64, things)...), things: things}
}

// fill puts things, from 1 on, one behind the other.
func (r *run) fill(many int) {
	for thing := 1; thing <= many; thing++ {
		m := Push(head, at, thing)
		for range 3 {
			m.Step(r.s)
		}
		r.stack = append(r.stack, thing)
	}
}

// act lets an actor begin, who has some things.
func (r *run) act(kinds []int, has ...int) {
	r.actors = append(r.actors, &actor{kinds: kinds, has: slices.Clone(has)})
}

// begin makes an actor's next machine; false: it has none.
func (a *actor) begin() bool {
	for len(a.kinds) > 0 && a.kinds[0] == push && len(a.has) == 0 {
		a.kinds = a.kinds[1:]
	}
	if len(a.kinds) == 0 {
		return false
	}
	if a.kinds[0] == push {
		a.m = Push(head, at, a.has[0])
	} else {
		a.m = Pop(head, at)
	}
	return true
}

// step does an actor's next step; false: it has none.
func (r *run) step(t *testing.T, who int) bool {
	a := r.actors[who]
	if a.m == nil && !a.begin() {
		return false
	}
	if r.steps++; r.steps > 100000 {
		t.Fatal("steps don't end")
	}
	if !a.m.Step(r.s) {
		return true
	}
	r.again += a.m.Tries() - 1
	if a.kinds[0] == push {
		r.put(t, a)
	} else {
		r.take(t, a)
	}
	a.m, a.kinds = nil, a.kinds[1:]
	r.looks(t)
	return true
}

// put notes what an actor put.
func (r *run) put(t *testing.T, a *actor) {
	if a.m.Item() != a.has[0] {
		t.Errorf("Push of %d tells %d", a.has[0], a.m.Item())
	}
	r.stack = append(r.stack, a.has[0])
	a.has = a.has[1:]
}

// take notes what an actor took.
func (r *run) take(t *testing.T, a *actor) {
	item := a.m.Item()
	if len(r.stack) == 0 {
		if item != 0 {
			t.Errorf("%d was taken of nothing", item)
		}
		r.none++
		return
	}
	end := len(r.stack) - 1
	if item != r.stack[end] {
		t.Errorf("%d was taken of %v", item, r.stack)
		return
	}
	r.stack = r.stack[:end]
	a.has = append(a.has, item)
}

// looks asks that memory has the stack, as it should.
func (r *run) looks(t *testing.T) {
	l := Walk(r.s.All(), head, at, r.things+1)
	slices.Reverse(l)
	if !slices.Equal(l, r.stack) {
		t.Errorf("the stack is %v, not %v", l, r.stack)
	}
}

// end pops all that is left, and asks that each thing was taken once.
func (r *run) end(t *testing.T) {
	var all []int
	for _, a := range r.actors {
		all = append(all, a.has...)
	}
	for range r.things + 1 {
		m := Pop(head, at)
		for range 3 {
			m.Step(r.s)
		}
		if m.Item() != 0 {
			all = append(all, m.Item())
		}
	}
	slices.Sort(all)
	for i, thing := range all {
		if thing != i+1 {
			t.Errorf("%v are there of %d", all, r.things)
			return
		}
	}
	if len(all) != r.things {
		t.Errorf("%v are there of %d", all, r.things)
	}
}

// orders goes through all orders in which the actors' steps may come, each from
// the run's beginning on, and tells how many there are.
func orders(t *testing.T, begin func() *run) int {
	t.Helper()
	var whos []int // whose steps they are
	for many := 1; ; many++ {
		r := begin()
		for _, who := range whos {
			r.step(t, who)
		}
		for who := range r.actors {
			for r.step(t, who) {
				whos = append(whos, who)
			}
		}
		r.end(t)
		if t.Failed() {
			t.Errorf("in the order %v", whos)
			return many
		}
		if whos = next(whos, len(r.actors)); whos == nil {
			return many
		}
	}
}

// next is the beginning of the next order: up to the last step ahead of which a
// later actor could step, which does.
func next(whos []int, all int) []int {
	for i := len(whos) - 1; i >= 0; i-- {
		for who := whos[i] + 1; who < all; who++ {
			if slices.Contains(whos[i:], who) {
				return append(whos[:i], who)
			}
		}
	}
	return nil
}

// P9.5: all orders of few steps.
func TestEachThingIsTakenOnceInAllOrders(t *testing.T) {
	for _, c := range []struct {
		fill  int     // how many things there are in it at first
		kinds [][]int // what each does; the first things beyond are theirs, one each
		least int     // how many orders there are, at least
	}{
		{0, [][]int{{push}, {push}}, 20},
		{2, [][]int{{pop}, {pop}}, 20},
		{1, [][]int{{push}, {pop}}, 20},
		{3, [][]int{{pop}, {pop, pop, push}}, 5000}, // the first one is back, and what was behind it isn't
		{3, [][]int{{pop, push}, {pop, push}}, 5000},
		{0, [][]int{{push, pop}, {push, pop}}, 5000},
		{2, [][]int{{pop}, {pop}, {pop}}, 5000},
		{0, [][]int{{push}, {push}, {push}}, 5000},
		{1, [][]int{{push}, {push}, {pop}}, 5000},
	} {
		for _, turns := range []uint32{0, most - 3} {
			begin := func() *run {
				r := from(turns, c.fill+len(c.kinds))
				r.fill(c.fill)
				for who, l := range c.kinds {
					r.act(l, c.fill+1+who)
				}
				return r
			}
			if many := orders(t, begin); many < c.least {
				t.Errorf("there were %d orders, not %d", many, c.least)
			}
		}
	}
}

// P9.5: some orders of many steps, of up to five who push and pop.
func TestEachThingIsTakenOnceInLongOrders(t *testing.T) {
	n := series(95)
	none, again := 0, 0
	for range 600 {
		things := 1 + n.below(6)
		r := from([]uint32{0, 7, 1 << 31, most - 40}[n.below(4)], things)
		filled := n.below(things + 1)
		r.fill(filled)
		for who := range 2 + n.below(4) {
			kinds := make([]int, 40)
			for i := range kinds {
				kinds[i] = n.below(2)
			}
			r.act(kinds)
			if thing := filled + who + 1; thing <= things {
				r.actors[who].has = []int{thing}
			}
		}
		for thing := filled + len(r.actors) + 1; thing <= things; thing++ {
			r.actors[0].has = append(r.actors[0].has, thing)
		}
		for range 4000 {
			// Some go on for a while, as if the others slept.
			who := n.below(len(r.actors))
			for range 1 + n.below(5) {
				r.step(t, who)
			}
		}
		for who, a := range r.actors {
			for a.m != nil {
				r.step(t, who)
			}
		}
		r.end(t)
		none, again = none+r.none, again+r.again
		if t.Failed() {
			return
		}
	}
	if none == 0 || again == 0 {
		t.Errorf("%d found nothing, %d began again", none, again)
	}
}
