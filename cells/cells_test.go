package cells

import (
	"math"
	"slices"
	"testing"
)

// nowhere are places at which memory of so many words has none.
func nowhere(many int) []int {
	return []int{math.MinInt, math.MinInt + 1, -1 << 32, -many - 1, -many, -2, -1, many, many + 1, 1 << 31, 1 << 32, 1<<32 + 1, math.MaxInt - 1, math.MaxInt}
}

// edges are words round the ends of what a word and its half can be.
func edges() []uint64 {
	return []uint64{0, 1, 2, math.MaxUint32, 1 << 32, 1<<63 - 1, 1 << 63, math.MaxUint64 - 1, math.MaxUint64}
}

// holds asks that memory has just those words, and had so many accesses.
func holds(t *testing.T, s *Store, count int, l ...uint64) {
	t.Helper()
	if got := s.All(); !slices.Equal(got, l) {
		t.Errorf("All is %v, not %v", got, l)
	}
	if got := s.Len(); got != len(l) {
		t.Errorf("Len is %d, not %d", got, len(l))
	}
	if got := s.Count(); got != count {
		t.Errorf("Count is %d, not %d", got, count)
	}
}

// The chapter's example.
func TestTheExample(t *testing.T) {
	s := New(5, 6)
	if !s.Swap(0, 5, 9) {
		t.Error("Swap of 0 from 5 to 9 is false")
	}
	if was := s.Add(1, 2); was != 6 {
		t.Errorf("Add of 2 to 1 is %d, not 6", was)
	}
	if s.Count() != 2 {
		t.Errorf("Count is %d, not 2", s.Count())
	}
	holds(t, s, 2, 9, 8)
}

// P6.1
func TestNewHasTheWords(t *testing.T) {
	holds(t, New(), 0)
	holds(t, New([]uint64{}...), 0)
	holds(t, New(7), 0, 7)
	holds(t, New(0, 0, 0), 0, 0, 0, 0)
	holds(t, New(edges()...), 0, edges()...)
	l := make([]uint64, 5000)
	for i := range l {
		l[i] = uint64(i) * 3
	}
	holds(t, New(l...), 0, l...)
}

// P6.1
func TestNewKeepsNoList(t *testing.T) {
	l := []uint64{1, 2, 3}
	s := New(l...)
	l[0], l[2] = 8, 9
	holds(t, s, 0, 1, 2, 3)
	s.Put(1, 7)
	if !slices.Equal(l, []uint64{8, 2, 9}) {
		t.Errorf("the list that was handed in is %v", l)
	}
	holds(t, New(l[:1]...), 0, 8)
	short := New(l[:1]...)
	short.Put(0, 5)
	short.Put(1, 5)
	if !slices.Equal(l, []uint64{8, 2, 9}) {
		t.Errorf("the list that was handed in in part is %v", l)
	}
}

// P6.1
func TestAllIsNewMemory(t *testing.T) {
	s := New(1, 2, 3)
	first, second := s.All(), s.All()
	first[0] = 9
	_ = append(first[:1], 9, 9)
	holds(t, s, 0, 1, 2, 3)
	if !slices.Equal(second, []uint64{1, 2, 3}) {
		t.Errorf("another answer is %v", second)
	}
	s.Put(1, 5)
	if !slices.Equal(second, []uint64{1, 2, 3}) {
		t.Errorf("an answer changed to %v", second)
	}
	holds(t, s, 1, 1, 5, 3)
}

// P6.1
func TestCountIsOfAccessesAlone(t *testing.T) {
	s := New(4, 4)
	for range 3 {
		s.Len()
		s.Count()
		s.All()
	}
	holds(t, s, 0, 4, 4)
	for i, access := range []func(){
		func() { s.Load(0) },
		func() { s.Put(0, 4) },
		func() { s.Swap(0, 4, 4) },
		func() { s.Swap(0, 5, 6) },
		func() { s.Add(0, 0) },
		func() { s.Load(2) },
		func() { s.Put(2, 4) },
		func() { s.Swap(2, 0, 4) },
		func() { s.Add(2, 4) },
		func() { s.Load(-1) },
		func() { s.Put(-1, 4) },
		func() { s.Swap(-1, 0, 4) },
		func() { s.Add(-1, 4) },
	} {
		access()
		if s.Count() != i+1 {
			t.Errorf("behind access %d Count is %d", i, s.Count())
		}
	}
	holds(t, s, 13, 4, 4)
	for range 1000 {
		s.Load(1)
	}
	holds(t, s, 1013, 4, 4)
}

// P6.1
func TestEachMemoryIsItsOwn(t *testing.T) {
	l := []uint64{1, 2}
	a, b := New(l...), New(l...)
	a.Put(0, 5)
	a.Add(1, 5)
	b.Swap(1, 2, 8)
	holds(t, a, 2, 5, 7)
	holds(t, b, 1, 1, 8)
}

// P6.2
func TestLoad(t *testing.T) {
	s := New(edges()...)
	for at, w := range edges() {
		if got := s.Load(at); got != w {
			t.Errorf("Load(%d) is %d, not %d", at, got, w)
		}
	}
	holds(t, s, len(edges()), edges()...)
}

// P6.2
func TestPut(t *testing.T) {
	s := New(1, 2, 3)
	count := 0
	for _, w := range edges() {
		for at := range 3 {
			l := s.All()
			l[at] = w
			s.Put(at, w)
			count++
			holds(t, s, count, l...)
		}
	}
}

// P6.2
func TestSwap(t *testing.T) {
	for _, is := range edges() {
		for _, old := range edges() {
			for _, w := range edges() {
				s := New(is, is, is)
				got := s.Swap(1, old, w)
				if got != (is == old) {
					t.Errorf("of %d Swap from %d to %d is %v", is, old, w, got)
				}
				if got {
					holds(t, s, 1, is, w, is)
				} else {
					holds(t, s, 1, is, is, is)
				}
			}
		}
	}
}

// P6.2
func TestAdd(t *testing.T) {
	for _, c := range []struct{ is, n, want uint64 }{
		{6, 2, 8},
		{0, 0, 0},
		{7, 0, 7},
		{math.MaxUint32, 1, 1 << 32},
		{1 << 63, 1 << 63, 0},
		{1<<63 - 1, 1 << 63, math.MaxUint64},
		{math.MaxUint64, 1, 0},
		{1, math.MaxUint64, 0},
		{0, math.MaxUint64, math.MaxUint64},
		{math.MaxUint64, math.MaxUint64, math.MaxUint64 - 1},
		{3, math.MaxUint64 - 1, 1},
	} {
		s := New(5, 5, c.is)
		if was := s.Add(2, c.n); was != c.is {
			t.Errorf("Add of %d to %d is %d", c.n, c.is, was)
		}
		holds(t, s, 1, 5, 5, c.want)
	}
}

// P6.2
func TestEachWordOfMany(t *testing.T) {
	l := make([]uint64, 5000)
	s := New(l...)
	for at := range l {
		l[at] = uint64(at) + 5
		s.Put(at, 3)
		if !s.Swap(at, 3, 4) || s.Add(at, uint64(at)+1) != 4 || s.Load(at) != l[at] {
			t.Fatalf("the word at %d is %d, not %d", at, s.Load(at), l[at])
		}
	}
	holds(t, s, 4*len(l), l...)
}

// P6.2
func TestAnAccessSeesTheOneAhead(t *testing.T) {
	s := New(0)
	s.Put(0, 3)
	if was := s.Add(0, 4); was != 3 {
		t.Errorf("Add behind Put is %d, not 3", was)
	}
	if !s.Swap(0, 7, 9) || s.Swap(0, 7, 8) {
		t.Error("Swap behind Add, and another one behind it, aren't true and false")
	}
	if got := s.Load(0); got != 9 {
		t.Errorf("Load behind Swap is %d, not 9", got)
	}
	if was := s.Add(0, math.MaxUint64-8); was != 9 {
		t.Errorf("Add behind Load is %d, not 9", was)
	}
	holds(t, s, 6, 0)
}

// Words of the chapter: where there is no word at a place.
func TestWhereThereIsNoWord(t *testing.T) {
	for _, l := range [][]uint64{nil, {6}, {0, 0}, {7, 8, 9}} {
		s := New(l...)
		count := 0
		for _, at := range nowhere(len(l)) {
			if got := s.Load(at); got != 0 {
				t.Errorf("Load(%d) of %v is %d", at, l, got)
			}
			s.Put(at, 5)
			for _, old := range []uint64{0, 6, 7, 9} {
				if s.Swap(at, old, 4) {
					t.Errorf("Swap(%d, %d, 4) of %v is true", at, old, l)
				}
			}
			if got := s.Add(at, 3); got != 0 {
				t.Errorf("Add(%d, 3) of %v is %d", at, l, got)
			}
			count += 7
			holds(t, s, count, l...)
		}
	}
}

// P6.3
func TestNil(t *testing.T) {
	var s *Store
	for _, at := range append(nowhere(3), 0, 1) {
		if got := s.Load(at); got != 0 {
			t.Errorf("Load(%d) is %d", at, got)
		}
		s.Put(at, 1)
		if s.Swap(at, 0, 1) || s.Swap(at, 1, 1) {
			t.Errorf("Swap at %d is true", at)
		}
		if got := s.Add(at, 1); got != 0 {
			t.Errorf("Add(%d, 1) is %d", at, got)
		}
		holds(t, s, 0)
	}
}

// series tells the same numbers each time, each from 0 on and below an end.
type series uint64

func (s *series) below(end int) int {
	*s = *s*6364136223846793005 + 1442695040888963407
	return int(uint64(*s)>>33) % end
}

// Kinds of accesses.
const (
	load = iota
	put
	swap
	add
	kinds
)

// told is what an access does to words, and answers, as the chapter tells it;
// a Swap's true is 1.
func told(l []uint64, kind, at int, old, w uint64) (place int, is, answer uint64) {
	if at < 0 || at >= len(l) {
		return -1, 0, 0
	}
	switch was := l[at]; {
	case kind == load:
		return -1, 0, was
	case kind == put:
		return at, w, 0
	case kind == swap && was == old:
		return at, w, 1
	case kind == add:
		return at, was + w, was
	}
	return -1, 0, 0
}

// done is an access by its kind, and its answer.
func done(s *Store, kind, at int, old, w uint64) uint64 {
	switch kind {
	case load:
		return s.Load(at)
	case put:
		s.Put(at, w)
	case swap:
		if s.Swap(at, old, w) {
			return 1
		}
	case add:
		return s.Add(at, w)
	}
	return 0
}

// P6.4
func TestAnAccessChangesOneWordAtMost(t *testing.T) {
	n := series(6)
	few := []uint64{0, 1, 2, math.MaxUint64}
	for round := range 50 {
		l := make([]uint64, round%7)
		for i := range l {
			l[i] = few[n.below(len(few))]
		}
		s := New(l...)
		for step := range 400 {
			kind, at := n.below(kinds), n.below(len(l)+4)-2
			old, w := few[n.below(len(few))], few[n.below(len(few))]
			place, is, want := told(l, kind, at, old, w)
			if got := done(s, kind, at, old, w); got != want {
				t.Fatalf("of %v kind %d at %d from %d with %d is %d, not %d", l, kind, at, old, w, got, want)
			}
			if place >= 0 {
				l[place] = is
			}
			if got := s.All(); !slices.Equal(got, l) || s.Count() != step+1 || s.Len() != len(l) {
				t.Fatalf("behind kind %d at %d All is %v, not %v; Count is %d", kind, at, got, l, s.Count())
			}
		}
	}
}
