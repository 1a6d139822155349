package ranges

import (
	"math"
	"math/big"
	"slices"
	"testing"
)

// edges are numbers round the ends of what slots, a chunk and an int can be.
func edges() []int {
	l := []int{math.MinInt, math.MinInt + 1, math.MinInt + 999, math.MaxInt - 1000, math.MaxInt - 1, math.MaxInt}
	for _, at := range []int{-1 << 32, -1000, 0, 5, 16, 500, 1000, 2000, 1 << 32} {
		l = append(l, at-2, at-1, at, at+1, at+2)
	}
	return l
}

// within is n, or the end that it is beyond.
func within(n, least, most int) int {
	if n < least {
		return least
	}
	if n > most {
		return most
	}
	return n
}

// nextOf is P10.1, worked out in big numbers.
func nextOf(slots, from, chunk int) (Piece, bool) {
	slots, chunk = within(slots, 0, 1000), within(chunk, 1, 1000)
	from = within(from, 0, slots)
	to := new(big.Int).Add(big.NewInt(int64(from)), big.NewInt(int64(chunk)))
	if end := big.NewInt(int64(slots)); to.Cmp(end) > 0 {
		to = end
	}
	return Piece{From: from, To: int(to.Int64())}, big.NewInt(int64(slots)).Cmp(to) > 0
}

// allOf is P10.2's pieces, each one by Next.
func allOf(slots, chunk int) []Piece {
	p, more := Next(slots, 0, chunk)
	l := []Piece{p}
	for more {
		p, more = Next(slots, p.To, chunk)
		l = append(l, p)
	}
	return l
}

// P10.1
func TestNext(t *testing.T) {
	for _, c := range []struct {
		slots, from, chunk int
		want               Piece
		more               bool
	}{
		{5, 0, 2, Piece{0, 2}, true},
		{5, 2, 2, Piece{2, 4}, true},
		{5, 4, 2, Piece{4, 5}, false},
		{5, 1, 2, Piece{1, 3}, true},
		{5, 3, 2, Piece{3, 5}, false},
		{5, 5, 2, Piece{5, 5}, false},
		{10, 4, 3, Piece{4, 7}, true},
		{10, 7, 3, Piece{7, 10}, false},
		{10, 8, 3, Piece{8, 10}, false},
		{16, 0, 16, Piece{0, 16}, false},
		{16, 0, 15, Piece{0, 15}, true},
		{16, 0, 17, Piece{0, 16}, false},
		{1, 0, 1, Piece{0, 1}, false},
		{2, 0, 1, Piece{0, 1}, true},
		{0, 0, 2, Piece{0, 0}, false},
		{1000, 0, 999, Piece{0, 999}, true},
		{1000, 999, 1, Piece{999, 1000}, false},
		{1000, 0, 1000, Piece{0, 1000}, false},
	} {
		if got, more := Next(c.slots, c.from, c.chunk); got != c.want || more != c.more {
			t.Errorf("Next(%d, %d, %d) is %v, %t, not %v, %t", c.slots, c.from, c.chunk, got, more, c.want, c.more)
		}
	}
}

// P10.1
func TestNextOfWhatMayNotBe(t *testing.T) {
	for _, c := range []struct {
		slots, from, chunk int
		want               Piece
		more               bool
	}{
		{5, -1, 2, Piece{0, 2}, true},
		{5, math.MinInt, 2, Piece{0, 2}, true},
		{5, 6, 2, Piece{5, 5}, false},
		{5, math.MaxInt, 2, Piece{5, 5}, false},
		{5, 2, 0, Piece{2, 3}, true},
		{5, 2, -1, Piece{2, 3}, true},
		{5, 4, math.MinInt, Piece{4, 5}, false},
		{5, 2, math.MaxInt, Piece{2, 5}, false},
		{5, math.MaxInt, math.MaxInt, Piece{5, 5}, false},
		{-1, 0, 2, Piece{0, 0}, false},
		{-1, -1, -1, Piece{0, 0}, false},
		{math.MinInt, 3, 2, Piece{0, 0}, false},
		{math.MinInt, math.MinInt, math.MinInt, Piece{0, 0}, false},
		{1001, 999, 1, Piece{999, 1000}, false},
		{1001, 1000, 1, Piece{1000, 1000}, false},
		{1001, 1001, 1, Piece{1000, 1000}, false},
		{math.MaxInt, 0, 7, Piece{0, 7}, true},
		{math.MaxInt, 0, 1001, Piece{0, 1000}, false},
		{math.MaxInt, math.MaxInt, math.MaxInt, Piece{1000, 1000}, false},
	} {
		if got, more := Next(c.slots, c.from, c.chunk); got != c.want || more != c.more {
			t.Errorf("Next(%d, %d, %d) is %v, %t, not %v, %t", c.slots, c.from, c.chunk, got, more, c.want, c.more)
		}
	}
}

// P10.1
func TestNextAtAllEdges(t *testing.T) {
	l := edges()
	for _, slots := range l {
		for _, from := range l {
			for _, chunk := range l {
				got, more := Next(slots, from, chunk)
				if want, wants := nextOf(slots, from, chunk); got != want || more != wants {
					t.Fatalf("Next(%d, %d, %d) is %v, %t, not %v, %t", slots, from, chunk, got, more, want, wants)
				}
			}
		}
	}
}

// P10.1
func TestNextOfAllSmallOnes(t *testing.T) {
	for slots := -1; slots <= 34; slots++ {
		for from := -2; from <= slots+2; from++ {
			for chunk := -1; chunk <= 36; chunk++ {
				got, more := Next(slots, from, chunk)
				if want, wants := nextOf(slots, from, chunk); got != want || more != wants {
					t.Fatalf("Next(%d, %d, %d) is %v, %t, not %v, %t", slots, from, chunk, got, more, want, wants)
				}
			}
		}
	}
}

// P10.2
func TestAllAndCount(t *testing.T) {
	for _, c := range []struct {
		slots, chunk int
		want         []Piece
	}{
		{5, 2, []Piece{{0, 2}, {2, 4}, {4, 5}}},
		{4, 2, []Piece{{0, 2}, {2, 4}}},
		{5, 5, []Piece{{0, 5}}},
		{5, 4, []Piece{{0, 4}, {4, 5}}},
		{5, 6, []Piece{{0, 5}}},
		{3, 1, []Piece{{0, 1}, {1, 2}, {2, 3}}},
		{1, 1, []Piece{{0, 1}}},
		{0, 1, []Piece{{0, 0}}},
		{0, 1000, []Piece{{0, 0}}},
		{-1, 2, []Piece{{0, 0}}},
		{math.MinInt, math.MinInt, []Piece{{0, 0}}},
		{2, 0, []Piece{{0, 1}, {1, 2}}},
		{2, -1, []Piece{{0, 1}, {1, 2}}},
		{2, math.MinInt, []Piece{{0, 1}, {1, 2}}},
		{2, math.MaxInt, []Piece{{0, 2}}},
		{999, 500, []Piece{{0, 500}, {500, 999}}},
		{1000, 500, []Piece{{0, 500}, {500, 1000}}},
		{1001, 500, []Piece{{0, 500}, {500, 1000}}},
		{1001, 999, []Piece{{0, 999}, {999, 1000}}},
		{1001, 1000, []Piece{{0, 1000}}},
		{math.MaxInt, math.MaxInt, []Piece{{0, 1000}}},
	} {
		if got := All(c.slots, c.chunk); !slices.Equal(got, c.want) {
			t.Errorf("All(%d, %d) is %v, not %v", c.slots, c.chunk, got, c.want)
		}
		if got := Count(c.slots, c.chunk); got != len(c.want) {
			t.Errorf("Count(%d, %d) is %d, not %d", c.slots, c.chunk, got, len(c.want))
		}
	}
}

// P10.2
func TestAllIsEachNext(t *testing.T) {
	for _, slots := range edges() {
		for _, chunk := range edges() {
			want := allOf(slots, chunk)
			if got := All(slots, chunk); !slices.Equal(got, want) {
				t.Fatalf("All(%d, %d) is %v, not %v", slots, chunk, got, want)
			}
			if got := Count(slots, chunk); got != len(want) {
				t.Fatalf("Count(%d, %d) is %d, not %d", slots, chunk, got, len(want))
			}
		}
	}
}

// P10.2
func TestAllIsNewMemory(t *testing.T) {
	l, other := All(5, 2), All(5, 2)
	l[0] = Piece{From: 7, To: 9}
	_ = append(l[:1], Piece{From: 7, To: 9}, Piece{From: 7, To: 9})
	want := []Piece{{0, 2}, {2, 4}, {4, 5}}
	if !slices.Equal(other, want) || !slices.Equal(All(5, 2), want) {
		t.Error("what All answered was kept")
	}
}

// P10.2
func TestMost(t *testing.T) {
	for _, c := range []struct {
		slots []int
		chunk int
		want  int
	}{
		{nil, 4, 0},
		{[]int{}, 4, 0},
		{nil, 0, 0},
		{[]int{0}, 4, 1},
		{[]int{5}, 2, 3},
		{[]int{0, 4, 16}, 4, 6},
		{[]int{16, 0, 4}, 4, 6},
		{[]int{1, 2, 4, 8, 16}, 1, 31},
		{[]int{1, 2, 4, 8, 16}, 3, 1 + 1 + 2 + 3 + 6},
		{[]int{1, 2, 4, 8, 16}, 16, 5},
		{[]int{5, 5, 5}, 2, 9},
		{[]int{-1, 0, math.MinInt}, 3, 3},
		{[]int{3, 3}, 0, 6},
		{[]int{3, 3}, math.MinInt, 6},
		{[]int{3, 3}, math.MaxInt, 2},
		{[]int{999, 1000, 1001, math.MaxInt}, 1, 3999},
		{[]int{999, 1000, 1001, math.MaxInt}, 999, 7},
		{[]int{999, 1000, 1001, math.MaxInt}, 1001, 4},
	} {
		handed := slices.Clone(c.slots)
		if got := Most(handed, c.chunk); got != c.want {
			t.Errorf("Most(%v, %d) is %d, not %d", c.slots, c.chunk, got, c.want)
		}
		if !slices.Equal(handed, c.slots) {
			t.Errorf("Most(%v, %d) left %v", c.slots, c.chunk, handed)
		}
	}
}

// P10.2
func TestMostIsAllCounts(t *testing.T) {
	l := edges()
	for _, chunk := range l {
		want := 0
		for i, n := range l {
			want += len(allOf(n, chunk))
			if got := Most(l[:i+1], chunk); got != want {
				t.Fatalf("Most(%v, %d) is %d, not %d", l[:i+1], chunk, got, want)
			}
		}
	}
}

// P10.2
func TestMostOfALongList(t *testing.T) {
	l := make([]int, 1<<20)
	for i := range l {
		l[i] = math.MaxInt
	}
	if got := Most(l, math.MinInt); got != 1000<<20 {
		t.Errorf("it is %d, not %d", got, 1000<<20)
	}
}

// P10.3
func TestPiecesOfAllSlotsByAllChunks(t *testing.T) {
	for slots := range 1001 {
		for chunk := 1; chunk <= 1000; chunk++ {
			l := All(slots, chunk)
			want := slots / chunk
			if slots%chunk > 0 {
				want++
			}
			if want < 1 {
				want = 1
			}
			if len(l) != want || Count(slots, chunk) != want {
				t.Fatalf("%d slots by %d are %d pieces, counted %d, not %d", slots, chunk, len(l), Count(slots, chunk), want)
			}
			end := 0
			for _, p := range l {
				if p.From != end || p.To-p.From > chunk || p.To == p.From && len(l) > 1 {
					t.Fatalf("%d slots by %d are %v", slots, chunk, l)
				}
				end = p.To
			}
			if end != slots {
				t.Fatalf("%d slots by %d are %v", slots, chunk, l)
			}
		}
	}
}
