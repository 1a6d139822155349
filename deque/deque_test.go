package deque

import (
	"math"
	"slices"
	"testing"

	"dustman/cells"
)

const (
	far  = 1 << 63 // as far on as it is back, and so ahead of nothing
	last = math.MaxUint64
)

// ends is where most tests have their deque: Top at 1, Bottom at 2, the entries
// from 4 on; the words at 0 and 3 are no part of it.
func ends(room int) Ends { return Ends{Top: 1, Bottom: 2, Entry: 4, Room: room} }

// memory is a deque there, between words that nobody changes.
func memory(top, bottom uint64, entries ...uint64) *cells.Store {
	return cells.New(slices.Concat([]uint64{90, top, bottom, 91}, entries, []uint64{92})...)
}

// has asks that memory has that deque.
func has(t *testing.T, s *cells.Store, top, bottom uint64, entries ...uint64) {
	t.Helper()
	if got, want := s.All(), memory(top, bottom, entries...).All(); !slices.Equal(got, want) {
		t.Errorf("memory is %v, not %v", got, want)
	}
}

// is asks what a machine tells.
func is(t *testing.T, m *Machine, result int, word uint64) {
	t.Helper()
	if got, w := m.Result(); got != result || w != word {
		t.Errorf("Result is %d, %d, not %d, %d", got, w, result, word)
	}
}

// goes does a step that isn't the last one.
func goes(t *testing.T, m *Machine, s *cells.Store) {
	t.Helper()
	count := s.Count()
	if m.Step(s) {
		t.Error("Step is true ahead of the last one")
	}
	if s.Count() != count+1 {
		t.Errorf("Step did %d accesses", s.Count()-count)
	}
	is(t, m, Running, 0)
}

// ended does the last step, and further ones behind it, which do nothing.
func ended(t *testing.T, m *Machine, s *cells.Store, result int, word uint64) {
	t.Helper()
	count := s.Count()
	if !m.Step(s) {
		t.Error("Step is false at the last one")
	}
	if s.Count() != count+1 {
		t.Errorf("the last Step did %d accesses", s.Count()-count)
	}
	is(t, m, result, word)
	stays(t, m, s, result, word)
}

// stays asks that a machine that is finished does nothing more.
func stays(t *testing.T, m *Machine, s *cells.Store, result int, word uint64) {
	t.Helper()
	l, count := s.All(), s.Count()
	for range 3 {
		if !m.Step(s) {
			t.Error("Step is false behind the last one")
		}
		is(t, m, result, word)
	}
	if s.Count() != count || !slices.Equal(s.All(), l) {
		t.Error("Step did something behind the last one")
	}
}

// takes does all steps of a machine, which are so many.
func takes(t *testing.T, m *Machine, s *cells.Store, steps, result int, word uint64) {
	t.Helper()
	is(t, m, Running, 0)
	for range steps - 1 {
		goes(t, m, s)
	}
	ended(t, m, s, result, word)
}

// The chapter's example, and the kinds' numbers.
func TestTheExample(t *testing.T) {
	if Running != 0 || Done != 1 || Full != 2 || None != 3 || Lost != 4 {
		t.Error("the kinds' numbers aren't 0 to 4")
	}
	s := memory(0, 0, 0, 0)
	takes(t, Push(ends(2), 7), s, 4, Done, 0)
	has(t, s, 0, 1, 7, 0)
	takes(t, Steal(ends(2)), s, 4, Done, 7)
	has(t, s, 1, 1, 7, 0)
	takes(t, Pop(ends(2)), s, 4, None, 0)
	has(t, s, 1, 1, 7, 0)
}

// P8.1
func TestPushStepByStep(t *testing.T) {
	s := memory(4, 6, 60, 61, 62)
	m := Push(ends(3), 8)
	goes(t, m, s)
	has(t, s, 4, 6, 60, 61, 62)
	goes(t, m, s)
	has(t, s, 4, 6, 60, 61, 62)
	goes(t, m, s)
	has(t, s, 4, 6, 8, 61, 62)
	ended(t, m, s, Done, 0)
	has(t, s, 4, 7, 8, 61, 62)
}

// P8.1
func TestPushPutsEachWord(t *testing.T) {
	for _, w := range []uint64{0, 1, 1 << 32, far, last} {
		s := memory(0, 1, 5, 5)
		takes(t, Push(ends(2), w), s, 4, Done, 0)
		has(t, s, 0, 2, 5, w)
	}
}

// P8.1
func TestPushIsFull(t *testing.T) {
	for _, c := range []struct {
		top, bottom uint64
		room        int
		full        bool
	}{
		{0, 0, 1, false},
		{0, 1, 1, true},
		{0, 1, 2, false},
		{0, 2, 2, true},
		{0, 3, 2, true},
		{5, 12, 8, false},
		{5, 13, 8, true},
		{5, 14, 8, true},
		{6, 5, 1, false}, // Bottom is behind Top
		{9, 5, 3, false},
		{last, 0, 2, false}, // round the end
		{last, 1, 2, true},
		{last - 1, 1, 4, false},
		{last - 1, 2, 4, true},
		{0, last, 1, false},
		{0, far - 1, 3, true},
		{0, far, 3, false}, // as far back as on
		{0, far + 1, 3, false},
		{7, far + 6, 3, true},
		{7, far + 7, 3, false},
		{0, math.MaxInt - 1, math.MaxInt, false},
		{0, math.MaxInt, math.MaxInt, true},
		{last, math.MaxInt - 1, math.MaxInt, true},
	} {
		s := memory(c.top, c.bottom)
		m := Push(Ends{Top: 1, Bottom: 2, Entry: -8, Room: c.room}, 6)
		if c.full {
			takes(t, m, s, 2, Full, 0)
			has(t, s, c.top, c.bottom)
			continue
		}
		goes(t, m, s)
		if m.Step(s) {
			t.Errorf("of %d and %d in %d Push is finished with %d", c.top, c.bottom, c.room, m.result)
		}
	}
}

// P8.1
func TestPushSeesEachEndOnce(t *testing.T) {
	s := memory(3, 5, 50, 51)
	m := Push(ends(2), 8)
	s.Put(2, 4) // ahead of (1) all that is done is seen
	goes(t, m, s)
	s.Put(2, 9) // behind it not what is done to Bottom
	goes(t, m, s)
	s.Put(1, 1) // nor to Top, behind (2)
	goes(t, m, s)
	has(t, s, 1, 9, 8, 51)
	ended(t, m, s, Done, 0)
	has(t, s, 1, 5, 8, 51)

	s = memory(3, 5, 50, 51)
	m = Push(ends(2), 8)
	goes(t, m, s)
	s.Put(1, 4) // stolen in time: there is room
	goes(t, m, s)
	goes(t, m, s)
	ended(t, m, s, Done, 0)
	has(t, s, 4, 6, 50, 8)

	s = memory(3, 5, 50, 51)
	m = Push(ends(2), 8)
	goes(t, m, s)
	ended(t, m, s, Full, 0)
	s.Put(1, 4) // stolen too late
	stays(t, m, s, Full, 0)
	has(t, s, 4, 5, 50, 51)
}

// P8.1, P8.2, P8.3
func TestEntriesGoRound(t *testing.T) {
	for room := 1; room <= 9; room++ {
		for number := range uint64(3 * room) {
			entries := make([]uint64, room)
			s := memory(number, number, entries...)
			takes(t, Push(ends(room), 7), s, 4, Done, 0)
			entries[number%uint64(room)] = 7
			has(t, s, number, number+1, entries...)
			takes(t, Steal(ends(room)), s, 4, Done, 7)
			has(t, s, number+1, number+1, entries...)
			s = memory(number, number+1, entries...)
			takes(t, Pop(ends(room)), s, 6, Done, 7)
			has(t, s, number+1, number+1, entries...)
		}
	}
}

// P8.1: what is taken by its rest is the whole number of 64 bits.
func TestEntriesOfGreatNumbers(t *testing.T) {
	for _, c := range []struct {
		number uint64
		room   int
		entry  int
	}{
		{last, 3, 0},
		{last - 1, 3, 2},
		{last, 7, 1},
		{last, 8, 7},
		{far, 3, 2},
		{far, 5, 3},
		{far + 4, 5, 2},
		{1 << 32, 5, 1},
		{1 << 32, 6, 4},
	} {
		entries := make([]uint64, c.room)
		s := memory(c.number, c.number, entries...)
		takes(t, Push(ends(c.room), 7), s, 4, Done, 0)
		entries[c.entry] = 7
		has(t, s, c.number, c.number+1, entries...)
		takes(t, Steal(ends(c.room)), s, 4, Done, 7)
		has(t, s, c.number+1, c.number+1, entries...)
	}
}

// P8.2
func TestPopOfMany(t *testing.T) {
	s := memory(4, 7, 60, 61, 62, 63)
	m := Pop(ends(4))
	goes(t, m, s)
	has(t, s, 4, 7, 60, 61, 62, 63)
	goes(t, m, s)
	has(t, s, 4, 6, 60, 61, 62, 63)
	goes(t, m, s)
	has(t, s, 4, 6, 60, 61, 62, 63)
	ended(t, m, s, Done, 62)
	has(t, s, 4, 6, 60, 61, 62, 63)
	takes(t, Pop(ends(4)), s, 4, Done, 61)
	has(t, s, 4, 5, 60, 61, 62, 63)
}

// P8.2
func TestPopOfTheLastOne(t *testing.T) {
	s := memory(4, 5, 60, 61, 62)
	m := Pop(ends(3))
	goes(t, m, s)
	goes(t, m, s)
	has(t, s, 4, 4, 60, 61, 62)
	goes(t, m, s)
	goes(t, m, s)
	has(t, s, 4, 4, 60, 61, 62)
	goes(t, m, s)
	has(t, s, 5, 4, 60, 61, 62)
	ended(t, m, s, Done, 61)
	has(t, s, 5, 5, 60, 61, 62)
}

// P8.2
func TestPopOfTheLastOneThatIsStolen(t *testing.T) {
	s := memory(4, 5, 60, 61, 62)
	m := Pop(ends(3))
	for range 4 {
		goes(t, m, s)
	}
	s.Put(1, 5)
	goes(t, m, s)
	has(t, s, 5, 4, 60, 61, 62)
	ended(t, m, s, None, 0)
	has(t, s, 5, 5, 60, 61, 62)
}

// P8.2
func TestPopOfNone(t *testing.T) {
	for _, c := range []struct{ top, bottom uint64 }{
		{0, 0},
		{1, 1},
		{7, 6},
		{7, 2},
		{last, last},
		{0, last},
		{3, last - 2},
		{far, far},
		{far + 2, far - 3},
		{far - 2, 0},
	} {
		s := memory(c.top, c.bottom, 60, 61)
		m := Pop(ends(2))
		goes(t, m, s)
		has(t, s, c.top, c.bottom, 60, 61)
		goes(t, m, s)
		has(t, s, c.top, c.bottom-1, 60, 61)
		goes(t, m, s)
		has(t, s, c.top, c.bottom-1, 60, 61)
		ended(t, m, s, None, 0)
		has(t, s, c.top, c.bottom, 60, 61)
	}
}

// P8.2
func TestPopOfEnds(t *testing.T) {
	for _, c := range []struct {
		top, bottom uint64
		steps       int
	}{
		{last, 0, 6}, // one, round the end
		{last, 1, 4},
		{last - 1, 0, 4},
		{0, far, 4},
		{0, far + 1, 6}, // neither is ahead of the other
		{1, far + 2, 6},
		{far, 1, 6},
	} {
		s := memory(c.top, c.bottom, 61, 61)
		takes(t, Pop(ends(2)), s, c.steps, Done, 61)
		if c.steps == 4 {
			has(t, s, c.top, c.bottom-1, 61, 61)
		} else {
			has(t, s, c.top+1, c.bottom, 61, 61)
		}
	}
	s := memory(0, far+2, 61, 61)
	takes(t, Pop(ends(2)), s, 4, None, 0)
	has(t, s, 0, far+2, 61, 61)
}

// P8.2
func TestPopSeesEachWordOnce(t *testing.T) {
	s := memory(4, 8, 60, 61, 62, 63)
	m := Pop(ends(4))
	s.Put(2, 7) // ahead of (1)
	goes(t, m, s)
	s.Put(2, 1) // behind it
	goes(t, m, s)
	has(t, s, 4, 6, 60, 61, 62, 63)
	s.Put(1, 6) // ahead of (3): it is the only one
	goes(t, m, s)
	s.Put(1, 9) // behind it: the swap is false
	s.Put(6, 99)
	goes(t, m, s)
	goes(t, m, s)
	has(t, s, 9, 6, 60, 61, 99, 63)
	ended(t, m, s, None, 0)
	has(t, s, 9, 7, 60, 61, 99, 63)

	s = memory(4, 5, 60, 61)
	m = Pop(ends(2))
	goes(t, m, s)
	goes(t, m, s)
	s.Put(1, 5) // stolen ahead of (3)
	goes(t, m, s)
	s.Put(2, 50)
	ended(t, m, s, None, 0)
	has(t, s, 5, 5, 60, 61)

	s = memory(4, 5, 60, 61)
	m = Pop(ends(2))
	goes(t, m, s)
	goes(t, m, s)
	goes(t, m, s)
	s.Put(4, 70) // ahead of (4): what it has is x
	goes(t, m, s)
	s.Put(4, 80) // behind it: x is what it was
	goes(t, m, s)
	s.Put(2, 50)
	ended(t, m, s, Done, 70)
	has(t, s, 5, 5, 80, 61)

	s = memory(4, 6, 60, 61)
	m = Pop(ends(2))
	goes(t, m, s)
	goes(t, m, s)
	goes(t, m, s)
	s.Put(1, 5) // stolen behind (3): it is nobody else's all the same
	ended(t, m, s, Done, 61)
	has(t, s, 5, 5, 60, 61)
}

// P8.3
func TestStealStepByStep(t *testing.T) {
	s := memory(4, 6, 60, 61, 62)
	m := Steal(ends(3))
	goes(t, m, s)
	goes(t, m, s)
	goes(t, m, s)
	has(t, s, 4, 6, 60, 61, 62)
	ended(t, m, s, Done, 61)
	has(t, s, 5, 6, 60, 61, 62)
	takes(t, Steal(ends(3)), s, 4, Done, 62)
	has(t, s, 6, 6, 60, 61, 62)
	takes(t, Steal(ends(3)), s, 2, None, 0)
	has(t, s, 6, 6, 60, 61, 62)
}

// P8.3
func TestStealOfNone(t *testing.T) {
	for _, c := range []struct {
		top, bottom uint64
		none        bool
	}{
		{0, 0, true},
		{0, 1, false},
		{1, 0, true},
		{9, 3, true},
		{3, 9, false},
		{last, last, true},
		{last, 0, false},
		{0, last, true},
		{last, far - 2, false},
		{last, far - 1, true},
		{0, far - 1, false},
		{0, far, true}, // as far back as on
		{0, far + 1, true},
		{far, 0, true},
		{far + 1, 0, false},
	} {
		s := memory(c.top, c.bottom, 61, 61, 61)
		if c.none {
			takes(t, Steal(ends(3)), s, 2, None, 0)
			has(t, s, c.top, c.bottom, 61, 61, 61)
		} else {
			takes(t, Steal(ends(3)), s, 4, Done, 61)
			has(t, s, c.top+1, c.bottom, 61, 61, 61)
		}
	}
}

// P8.3
func TestStealIsLost(t *testing.T) {
	for _, top := range []uint64{3, 5, 9, 4 + 1<<32, 4 + far, last} {
		s := memory(4, 6, 60, 61)
		m := Steal(ends(2))
		goes(t, m, s)
		goes(t, m, s)
		goes(t, m, s)
		s.Put(1, top)
		ended(t, m, s, Lost, 0)
		has(t, s, top, 6, 60, 61)
	}
}

// P8.3
func TestStealSeesEachWordOnce(t *testing.T) {
	s := memory(3, 9, 60, 61)
	m := Steal(ends(2))
	s.Put(1, 4) // ahead of (1)
	goes(t, m, s)
	s.Put(1, 7) // behind it
	s.Put(2, 5) // ahead of (2)
	goes(t, m, s)
	s.Put(2, 3)  // behind it
	s.Put(4, 70) // ahead of (3): what it has is x
	goes(t, m, s)
	s.Put(4, 80) // behind it: x is what it was
	s.Put(1, 4)
	ended(t, m, s, Done, 70)
	has(t, s, 5, 3, 80, 61)

	s = memory(4, 5, 60, 61)
	m = Steal(ends(2))
	goes(t, m, s)
	s.Put(2, 4) // the last one is being popped
	ended(t, m, s, None, 0)
	has(t, s, 4, 4, 60, 61)
}

// P8.4
func TestNil(t *testing.T) {
	var m *Machine
	s := memory(0, 1, 6)
	for range 3 {
		if !m.Step(s) || !m.Step(nil) {
			t.Error("Step of nil is false")
		}
		is(t, m, Running, 0)
	}
	has(t, s, 0, 1, 6)
	if s.Count() != 0 {
		t.Errorf("Step of nil did %d accesses", s.Count())
	}
}

// P8.4: without memory all words are 0, and steps go on.
func TestNilMemory(t *testing.T) {
	for _, c := range []struct {
		m             *Machine
		steps, result int
	}{
		{Push(ends(2), 7), 4, Done},
		{Pop(ends(2)), 4, None},
		{Steal(ends(2)), 2, None},
	} {
		for step := range c.steps {
			is(t, c.m, Running, 0)
			if c.m.Step(nil) != (step == c.steps-1) {
				t.Errorf("step %d without memory isn't as it is", step)
			}
		}
		is(t, c.m, c.result, 0)
	}
}

// P8.4: what is made anew is told of its own steps alone.
func TestEachMachineIsItsOwn(t *testing.T) {
	s := memory(0, 0, 0, 0)
	a, b := Push(ends(2), 5), Push(ends(2), 6)
	takes(t, a, s, 4, Done, 0)
	is(t, b, Running, 0)
	takes(t, b, s, 4, Done, 0)
	has(t, s, 0, 2, 5, 6)
	c, d := Steal(ends(2)), Pop(ends(2))
	takes(t, d, s, 4, Done, 6)
	is(t, c, Running, 0)
	takes(t, c, s, 4, Done, 5)
	is(t, d, Done, 6)
}

// Words of the chapter: a Room below 1 counts as 1.
func TestRoomBelowOne(t *testing.T) {
	for _, room := range []int{0, -1, -2, -8, -1 << 32, math.MinInt} {
		for _, at := range []uint64{0, 1, 6, last - 1} {
			s := memory(at, at, 8, 9)
			takes(t, Push(ends(room), 5), s, 4, Done, 0)
			has(t, s, at, at+1, 5, 9)
			takes(t, Push(ends(room), 6), s, 2, Full, 0)
			has(t, s, at, at+1, 5, 9)
			takes(t, Pop(ends(room)), s, 6, Done, 5)
			has(t, s, at+1, at+1, 5, 9)
			s = memory(at, at+1, 7, 9)
			takes(t, Steal(ends(room)), s, 4, Done, 7)
			has(t, s, at+1, at+1, 7, 9)
		}
	}
}

// Words of the chapter, and of chapter 6: a place that isn't there has 0, and is
// not changed.
func TestPlacesThatArentThere(t *testing.T) {
	for _, at := range []int{-1, -2, math.MinInt, 8, 1 << 32, math.MaxInt} {
		s := memory(1, 3, 60, 61)
		takes(t, Push(Ends{Top: 1, Bottom: 2, Entry: at, Room: 3}, 5), s, 4, Done, 0)
		takes(t, Pop(Ends{Top: 1, Bottom: 2, Entry: at, Room: 1}), s, 4, Done, 0)
		takes(t, Steal(Ends{Top: 1, Bottom: 2, Entry: at, Room: 1}), s, 4, Done, 0)
		has(t, s, 2, 3, 60, 61)

		none := Ends{Top: at, Bottom: at, Entry: at, Room: 2}
		takes(t, Push(none, 5), s, 4, Done, 0)
		takes(t, Pop(none), s, 4, None, 0)
		takes(t, Steal(none), s, 2, None, 0)
		has(t, s, 2, 3, 60, 61)

		top := Ends{Top: at, Bottom: 2, Entry: 4, Room: 2} // Top is 0
		takes(t, Push(top, 5), s, 2, Full, 0)
		takes(t, Steal(top), s, 4, Lost, 0)
		takes(t, Pop(top), s, 4, Done, 60)
		s.Put(2, 1)
		takes(t, Pop(top), s, 6, None, 0)
		has(t, s, 2, 1, 60, 61)

		bottom := Ends{Top: 1, Bottom: at, Entry: 4, Room: 2} // Bottom is 0
		takes(t, Push(bottom, 5), s, 4, Done, 0)
		has(t, s, 2, 1, 5, 61)
		takes(t, Steal(bottom), s, 2, None, 0)
		takes(t, Pop(bottom), s, 4, None, 0)
		has(t, s, 2, 1, 5, 61)
	}
}

// Words of the chapter: an entry's place is a sum, there or not.
func TestEntriesThatArePartlyThere(t *testing.T) {
	s := memory(0, 0, 60, 61)
	before := Ends{Top: 1, Bottom: 2, Entry: -1, Room: 6} // entry 1 is at 0, entry 5 at 4
	takes(t, Push(before, 5), s, 4, Done, 0)
	has(t, s, 0, 1, 60, 61)
	takes(t, Steal(before), s, 4, Done, 0)
	s.Put(1, 5)
	s.Put(2, 5)
	takes(t, Push(before, 8), s, 4, Done, 0)
	has(t, s, 5, 6, 8, 61)
	takes(t, Steal(before), s, 4, Done, 8)

	beyond := Ends{Top: 1, Bottom: 2, Entry: 5, Room: 7} // entries 0 and 1 are there
	s = memory(7, 8, 60, 61)
	takes(t, Steal(beyond), s, 4, Done, 61)
	s = memory(9, 10, 60, 61)
	takes(t, Steal(beyond), s, 4, Done, 0)
	takes(t, Push(beyond, 5), s, 4, Done, 0)
	has(t, s, 10, 11, 60, 61)

	most := Ends{Top: 1, Bottom: 2, Entry: math.MaxInt, Room: math.MaxInt} // the sum is beyond all places
	s = memory(math.MaxInt-1, math.MaxInt-1, 60, 61)
	takes(t, Push(most, 5), s, 4, Done, 0)
	has(t, s, math.MaxInt-1, math.MaxInt, 60, 61)
	takes(t, Steal(most), s, 4, Done, 0)
}

// series tells the same numbers each time, each from 0 on and below an end.
type series uint64

func (s *series) below(end int) int {
	*s = *s*6364136223846793005 + 1442695040888963407
	return int(uint64(*s)>>33) % end
}

// Kinds of machines, as tests make them.
const (
	push = iota
	pop
	steal
	kinds
)

func made(kind int, e Ends, w uint64) *Machine {
	switch kind {
	case push:
		return Push(e, w)
	case pop:
		return Pop(e)
	}
	return Steal(e)
}

// told is a machine as the chapter's words have it: the number of the step that
// is next, 0 behind the last one.
type told struct {
	kind, step int
	e          Ends
	w, b, t, x uint64
	won        bool
	result     int
	word       uint64
}

func (m *told) end(result int, word uint64) {
	m.step, m.result, m.word = 0, result, word
}

func (m *told) entry(x uint64) int { return m.e.Entry + int(x%uint64(m.e.Room)) }

func (m *told) do(s *cells.Store) {
	step := m.step
	m.step++
	switch m.kind*10 + step {
	case push*10 + 1:
		m.b = s.Load(m.e.Bottom)
	case push*10 + 2:
		m.t = s.Load(m.e.Top)
		if int64(m.b-m.t) >= int64(m.e.Room) {
			m.end(Full, 0)
		}
	case push*10 + 3:
		s.Put(m.entry(m.b), m.w)
	case push*10 + 4:
		s.Put(m.e.Bottom, m.b+1)
		m.end(Done, 0)
	case pop*10 + 1:
		m.b = s.Load(m.e.Bottom) - 1
	case pop*10 + 2:
		s.Put(m.e.Bottom, m.b)
	case pop*10 + 3:
		m.t = s.Load(m.e.Top)
	case pop*10 + 4:
		if int64(m.t-m.b) > 0 {
			s.Put(m.e.Bottom, m.b+1)
			m.end(None, 0)
			return
		}
		m.x = s.Load(m.entry(m.b))
		if int64(m.b-m.t) > 0 {
			m.end(Done, m.x)
		}
	case pop*10 + 5:
		m.won = s.Swap(m.e.Top, m.t, m.t+1)
	case pop*10 + 6:
		s.Put(m.e.Bottom, m.b+1)
		if m.won {
			m.end(Done, m.x)
		} else {
			m.end(None, 0)
		}
	case steal*10 + 1:
		m.t = s.Load(m.e.Top)
	case steal*10 + 2:
		m.b = s.Load(m.e.Bottom)
		if int64(m.b-m.t) <= 0 {
			m.end(None, 0)
		}
	case steal*10 + 3:
		m.x = s.Load(m.entry(m.t))
	case steal*10 + 4:
		if s.Swap(m.e.Top, m.t, m.t+1) {
			m.end(Done, m.x)
		} else {
			m.end(Lost, 0)
		}
	}
}

// P8.1, P8.2, P8.3, P8.4: against the chapter's words, whatever others do between
// the steps, and wherever the deque's ends stand, on each other too.
func TestAgainstTheWords(t *testing.T) {
	n := series(8)
	few := []uint64{0, 1, 2, 3, 4, 5, far - 1, far, far + 1, last - 1, last}
	for range 6000 {
		l := make([]uint64, 3+n.below(6))
		for i := range l {
			l[i] = few[n.below(len(few))]
		}
		a, b := cells.New(l...), cells.New(l...)
		at := func() int { return n.below(len(l)+2) - 1 }
		e := Ends{Top: at(), Bottom: at(), Entry: at(), Room: 1 + n.below(5)}
		kind, w := n.below(kinds), few[n.below(len(few))]
		m, want := made(kind, e, w), &told{kind: kind, step: 1, e: e, w: w}
		for step := 1; want.step > 0; step++ {
			if n.below(3) == 0 {
				place, word := at(), few[n.below(len(few))]
				a.Put(place, word)
				b.Put(place, word)
			}
			want.do(b)
			done := m.Step(a)
			result, word := m.Result()
			if done != (want.step == 0) || result != want.result || word != want.word {
				t.Fatalf("kind %d, %v, step %d: %v, %d, %d, not %v, %d, %d", kind, e, step, done, result, word, want.step == 0, want.result, want.word)
			}
			if !slices.Equal(a.All(), b.All()) || a.Count() != b.Count() {
				t.Fatalf("kind %d, %v, step %d: memory is %v, not %v; %d accesses, not %d", kind, e, step, a.All(), b.All(), a.Count(), b.Count())
			}
		}
	}
}

// longest is how many steps a machine has at most.
const longest = 6

// actor does machines of some kinds, one behind the other.
type actor struct {
	kinds []int
	m     *Machine
	steps int // how many m did
}

// run is a deque from an empty one on, and what came of it.
type run struct {
	e      Ends
	s      *cells.Store
	handed uint64   // how many words were handed to Push: 1, 2, and so on
	in     []uint64 // those that it put
	out    []uint64 // those that were taken
	came   [Lost + 1]int
	actors []*actor
}

// from is a run of an empty deque whose ends are both that number.
func from(at uint64, room int) *run {
	return &run{e: ends(room), s: memory(at, at, make([]uint64, room)...)}
}

// act lets actors begin, one for each list of kinds.
func (r *run) act(kinds ...[]int) {
	r.actors = nil
	for _, l := range kinds {
		r.actors = append(r.actors, &actor{kinds: l})
	}
}

// step does an actor's next step; false: it has none.
func (r *run) step(who int) bool {
	a := r.actors[who]
	if len(a.kinds) == 0 {
		return false
	}
	if a.m == nil {
		if a.kinds[0] == push {
			r.handed++
		}
		a.m, a.steps = made(a.kinds[0], r.e, r.handed), 0
	}
	a.steps++
	if a.m.Step(r.s) || a.steps == longest {
		r.note(a.kinds[0], a.m)
		a.m, a.kinds = nil, a.kinds[1:]
	}
	return true
}

// note keeps what came of a machine.
func (r *run) note(kind int, m *Machine) {
	result, word := m.Result()
	r.came[result]++
	if result == Done && kind == push {
		r.in = append(r.in, r.handed)
	}
	if result == Done && kind != push {
		r.out = append(r.out, word)
	}
}

// empty pops all that is left, and tells whether what was taken is what was put.
func (r *run) empty() bool {
	for range r.handed + 1 {
		m := Pop(r.e)
		for range longest {
			m.Step(r.s)
		}
		r.note(pop, m)
	}
	slices.Sort(r.out)
	return slices.Equal(r.in, r.out)
}

// orders goes through all orders in which the actors' steps may come, each from
// the run's beginning on, and tells how many there are.
func orders(t *testing.T, begin func() *run) int {
	t.Helper()
	var whos []int // whose steps they are
	for many := 1; ; many++ {
		r := begin()
		for _, who := range whos {
			r.step(who)
		}
		for who := range r.actors {
			for r.step(who) {
				whos = append(whos, who)
			}
		}
		if !r.empty() {
			t.Errorf("in the order %v there was put %v, and taken %v", whos, r.in, r.out)
			return many
		}
		if whos = next(whos, len(r.actors)); whos == nil {
			return many
		}
	}
}

// next is the beginning of the next order: up to the last step ahead of which a
// later actor could step, which does.
func next(whos []int, all int) []int {
	for i := len(whos) - 1; i >= 0; i-- {
		for who := whos[i] + 1; who < all; who++ {
			if slices.Contains(whos[i:], who) {
				return append(whos[:i], who)
			}
		}
	}
	return nil
}

// starts are numbers from which a deque of that room may begin.
func starts(room int) []uint64 {
	l := []uint64{0, 5, far - 2}
	if room&(room-1) == 0 { // it divides 2^64
		l = append(l, last, last-2)
	}
	return l
}

// P8.5: all orders of few steps.
func TestEachWordIsTakenOnceInAllOrders(t *testing.T) {
	for _, c := range []struct {
		room  int
		ahead []int // what the owner does ahead of the others
		kinds [][]int
	}{
		{1, nil, [][]int{{push, pop}, {steal}}},
		{1, []int{push}, [][]int{{pop, push}, {steal}}},
		{1, []int{push}, [][]int{{pop}, {steal}, {steal}}},
		{2, []int{push}, [][]int{{push, pop}, {steal}}},
		{2, []int{push, push}, [][]int{{pop, pop}, {steal}}},
		{2, []int{push, push}, [][]int{{pop, push}, {steal}}},
		{2, []int{push, push}, [][]int{{push}, {steal}, {steal}}},
		{3, []int{push, push}, [][]int{{pop}, {steal}, {steal}}},
	} {
		for _, at := range starts(c.room) {
			begin := func() *run {
				r := from(at, c.room)
				r.act(c.ahead)
				for r.step(0) {
				}
				r.act(c.kinds...)
				return r
			}
			if orders(t, begin) < 2 {
				t.Error("there was one order alone")
			}
		}
	}
}

// P8.5: some orders of many steps, of one who pushes and pops, and up to four who steal.
func TestEachWordIsTakenOnceInLongOrders(t *testing.T) {
	n := series(85)
	var came [Lost + 1]int
	for round := range 600 {
		room := 1 + n.below(8)
		owner := make([]int, 60)
		for i := range owner {
			owner[i] = n.below(2)
		}
		lists := [][]int{owner}
		for range 1 + n.below(4) {
			lists = append(lists, slices.Repeat([]int{steal}, 30))
		}
		l := starts(room)
		r := from(l[round%len(l)], room)
		r.act(lists...)
		for len(r.actors[0].kinds) > 0 {
			// Some go on for a while, as if the others slept.
			who := n.below(len(r.actors))
			for range 1 + n.below(5) {
				r.step(who)
			}
		}
		for who, a := range r.actors {
			for a.m != nil {
				r.step(who)
			}
		}
		for result, many := range r.came {
			came[result] += many
		}
		if !r.empty() {
			t.Fatalf("round %d: there was put %v, and taken %v", round, r.in, r.out)
		}
	}
	for _, result := range []int{Done, Full, None, Lost} {
		if came[result] == 0 {
			t.Errorf("nothing came out as %d", result)
		}
	}
}
