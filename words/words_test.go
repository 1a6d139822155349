package words

import (
	"math"
	"math/big"
	"testing"
)

// edges are words round the ends of what a word, its half, and its cycle can be.
func edges() []uint64 {
	l := []uint64{0, 1, 2, 3, 7, 8, 9, 15, 16, 28}
	for _, at := range []uint64{1 << 31, 1 << 32, 1 << 60, 1 << 61, 1 << 62, 1 << 63} {
		l = append(l, at-2, at-1, at, at+1, at+2)
	}
	return append(l, math.MaxUint64-8, math.MaxUint64-7, math.MaxUint64-1, math.MaxUint64)
}

// rest is the one from 0 on, whatever x is.
func rest(x *big.Int, shift uint) *big.Int {
	return new(big.Int).Mod(x, new(big.Int).Lsh(big.NewInt(1), shift))
}

func number(w uint64) *big.Int { return new(big.Int).SetUint64(w) }

func TestPhasesNumbers(t *testing.T) {
	got := [6]int{Idle, Arming, Settling, Rooting, Marking, Sweeping}
	if got != [6]int{0, 1, 2, 3, 4, 5} {
		t.Error(got)
	}
}

// P1.1
func TestPhase(t *testing.T) {
	for _, c := range []struct {
		cycle uint64
		phase int
		want  uint64
	}{
		{0, Idle, 0},
		{3, Marking, 28},
		{1, Sweeping, 13},
		{2, 7, 23},
		{1<<61 - 1, 7, math.MaxUint64},
		{1 << 61, 1, 1},
		{1<<61 + 1, 0, 8},
		{math.MaxUint64, 0, math.MaxUint64 - 7},
		{1, 8, 8},
		{1, 9, 9},
		{1, 17, 9},
		{1, -1, 15},
		{1, -8, 8},
		{1, -9, 15},
		{0, math.MinInt, 0},
		{0, math.MinInt + 1, 1},
		{0, math.MaxInt, 7},
	} {
		if w := Phase(c.cycle, c.phase); w != c.want {
			t.Errorf("Phase(%d, %d) is %d, not %d", c.cycle, c.phase, w, c.want)
		}
	}
}

// P1.1
func TestPhaseOfEdges(t *testing.T) {
	list := []int{math.MinInt, math.MinInt + 3, -17, -9, -8, -7, -1, 0, 1, 2, 3, 4, 5, 6, 7, 8, 9, 64, 1 << 40, math.MaxInt}
	for _, cycle := range edges() {
		for _, phase := range list {
			want := new(big.Int).Lsh(rest(number(cycle), 61), 3)
			want.Add(want, rest(big.NewInt(int64(phase)), 3))
			if w := Phase(cycle, phase); w != want.Uint64() {
				t.Errorf("Phase(%d, %d) is %d, not %d", cycle, phase, w, want)
			}
		}
	}
}

// P1.1
func TestCycle(t *testing.T) {
	for _, c := range []struct {
		w, cycle uint64
		phase    int
	}{
		{0, 0, Idle},
		{7, 0, 7},
		{8, 1, Idle},
		{28, 3, Marking},
		{1 << 63, 1 << 60, Idle},
		{math.MaxUint64, 1<<61 - 1, 7},
	} {
		if cycle, phase := Cycle(c.w); cycle != c.cycle || phase != c.phase {
			t.Errorf("Cycle(%d) is %d, %d, not %d, %d", c.w, cycle, phase, c.cycle, c.phase)
		}
	}
}

// P1.2
func TestPair(t *testing.T) {
	for _, c := range []struct {
		high, low uint32
		want      uint64
	}{
		{0, 0, 0},
		{1, 2, 4294967298},
		{0, math.MaxUint32, math.MaxUint32},
		{1, 0, 1 << 32},
		{math.MaxUint32, 0, math.MaxUint64 - math.MaxUint32},
		{math.MaxUint32, math.MaxUint32, math.MaxUint64},
	} {
		if w := Pair(c.high, c.low); w != c.want {
			t.Errorf("Pair(%d, %d) is %d, not %d", c.high, c.low, w, c.want)
		}
		if high, low := Split(c.want); high != c.high || low != c.low {
			t.Errorf("Split(%d) is %d, %d, not %d, %d", c.want, high, low, c.high, c.low)
		}
	}
}

// P1.2
func TestTurn(t *testing.T) {
	for _, c := range []struct {
		w    uint64
		low  uint32
		want uint64
	}{
		{0, 0, 1 << 32},
		{4294967298, 5, 2<<32 + 5},
		{math.MaxUint32, 0, 1 << 32},
		{math.MaxUint64 - math.MaxUint32, 9, 9},
		{math.MaxUint64, 0, 0},
		{math.MaxUint64, math.MaxUint32, math.MaxUint32},
		{(math.MaxUint32 - 1) << 32, 1, math.MaxUint32<<32 + 1},
	} {
		if w := Turn(c.w, c.low); w != c.want {
			t.Errorf("Turn(%d, %d) is %d, not %d", c.w, c.low, w, c.want)
		}
	}
}

// P1.3
func TestAhead(t *testing.T) {
	for _, c := range []struct {
		a, b uint64
		want int64
	}{
		{0, 0, 0},
		{7, 7, 0},
		{5, 3, 2},
		{3, 5, -2},
		{0, 1, -1},
		{0, math.MaxUint64, 1},
		{math.MaxUint64, 0, -1},
		{2, math.MaxUint64 - 2, 5},
		{math.MaxUint64 - 2, 2, -5},
		{1 << 63, 0, math.MinInt64},
		{0, 1 << 63, math.MinInt64},
		{1<<63 + 4, 4, math.MinInt64},
		{1<<63 - 1, 0, math.MaxInt64},
		{0, 1<<63 - 1, -math.MaxInt64},
		{1<<63 + 1, 0, -math.MaxInt64},
		{0, 1<<63 + 1, math.MaxInt64},
		{1<<63 + 1<<32, 0, math.MinInt64 + 1<<32},
		{math.MaxUint64, math.MaxUint64, 0},
	} {
		if n := Ahead(c.a, c.b); n != c.want {
			t.Errorf("Ahead(%d, %d) is %d, not %d", c.a, c.b, n, c.want)
		}
	}
}

// P1.3
func TestAheadOfEdges(t *testing.T) {
	half := new(big.Int).Lsh(big.NewInt(1), 63)
	for _, a := range edges() {
		for _, b := range edges() {
			want := new(big.Int).Sub(number(a), number(b))
			want = rest(want.Add(want, half), 64)
			want.Sub(want, half)
			if n := Ahead(a, b); n != want.Int64() {
				t.Errorf("Ahead(%d, %d) is %d, not %d", a, b, n, want)
			}
		}
	}
}

// P1.4
func TestWhatIsPutInIsGotOut(t *testing.T) {
	for _, w := range edges() {
		if got := Phase(Cycle(w)); got != w {
			t.Errorf("Phase of Cycle(%d) is %d", w, got)
		}
		if got := Pair(Split(w)); got != w {
			t.Errorf("Pair of Split(%d) is %d", w, got)
		}
		for phase := range 8 {
			cycle := w % (1 << 61)
			if gotCycle, gotPhase := Cycle(Phase(cycle, phase)); gotCycle != cycle || gotPhase != phase {
				t.Errorf("Cycle of Phase(%d, %d) is %d, %d", cycle, phase, gotCycle, gotPhase)
			}
		}
		for _, v := range edges() {
			high, low := uint32(w), uint32(v)
			if gotHigh, gotLow := Split(Pair(high, low)); gotHigh != high || gotLow != low {
				t.Errorf("Split of Pair(%d, %d) is %d, %d", high, low, gotHigh, gotLow)
			}
			if gotHigh, gotLow := Split(Turn(Pair(high, 6), low)); gotHigh != high+1 || gotLow != low {
				t.Errorf("Split of Turn(Pair(%d, 6), %d) is %d, %d", high, low, gotHigh, gotLow)
			}
			if got := v + uint64(Ahead(w, v)); got != w {
				t.Errorf("%d and Ahead(%d, %d) is %d", v, w, v, got)
			}
		}
	}
}
