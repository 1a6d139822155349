package picks

import (
	"math"
	"math/big"
	"slices"
	"testing"

	"dustman/plan"
)

// numbers are the same ones each time, each from 0 to below n.
type numbers uint64

func (s *numbers) below(n int) int {
	*s = *s*6364136223846793005 + 1442695040888963407
	return int(uint64(*s)>>33) % n
}

// edges are numbers round the ends of what a byte, a count and an int can be.
func edges() []int {
	l := []int{math.MinInt, math.MinInt + 1, math.MaxInt - 1, math.MaxInt}
	for _, at := range []int{-1 << 32, -10000, -512, -256, -16, 0, 16, 128, 256, 512, 10000, 1 << 32} {
		l = append(l, at-2, at-1, at, at+1, at+2)
	}
	return l
}

// restBy is the one from 0 on, worked out in big numbers.
func restBy(n *big.Int, by int) int {
	return int(new(big.Int).Mod(n, big.NewInt(int64(by))).Int64())
}

// P4.1
func TestDecode(t *testing.T) {
	for _, c := range []struct {
		b    []byte
		all  int
		want []Pick
	}{
		{[]byte{1, 7, 9, 8, 0}, 3, []Pick{{1, 7}, {-1, 8}, {-1, 0}}},
		{nil, 3, nil},
		{[]byte{}, 3, nil},
		{[]byte{0}, 3, []Pick{{-1, 0}}},
		{[]byte{2}, 3, []Pick{{-1, 0}}},
		{[]byte{255}, 1000, []Pick{{-1, 0}}},
		{[]byte{0, 0}, 3, []Pick{{0, 0}}},
		{[]byte{2, 255}, 3, []Pick{{2, 255}}},
		{[]byte{3, 255}, 3, []Pick{{-1, 255}}},
		{[]byte{255, 4}, 3, []Pick{{-1, 4}}},
		{[]byte{0, 4}, 1, []Pick{{0, 4}}},
		{[]byte{0, 4}, 0, []Pick{{-1, 4}}},
		{[]byte{0, 4, 5}, -1, []Pick{{-1, 4}, {-1, 0}}},
		{[]byte{0, 4, 255, 5}, math.MinInt, []Pick{{-1, 4}, {-1, 5}}},
		{[]byte{254, 128, 255, 5}, 255, []Pick{{254, 128}, {-1, 5}}},
		{[]byte{254, 128, 255, 5}, 256, []Pick{{254, 128}, {255, 5}}},
		{[]byte{254, 128, 255, 5}, math.MaxInt, []Pick{{254, 128}, {255, 5}}},
	} {
		if got := Decode(c.b, c.all); !slices.Equal(got, c.want) {
			t.Errorf("Decode(%v, %d) is %v, not %v", c.b, c.all, got, c.want)
		}
	}
}

// P4.1
func TestDecodeOfEachByte(t *testing.T) {
	for _, all := range edges() {
		for who := range 256 {
			want := Pick{Who: who, Draw: 255 - who}
			if who >= all {
				want.Who = -1
			}
			got := Decode([]byte{byte(who), byte(255 - who), 7, 9}, all)
			if len(got) != 2 || got[0] != want || got[1].Draw != 9 {
				t.Fatalf("%d among %d is %v, not %v", who, all, got, want)
			}
		}
	}
}

// P4.1
func TestDecodeHasAPickOfEachTwoBytes(t *testing.T) {
	for n := range 20 {
		b := make([]byte, n)
		for i := range b {
			b[i] = byte(i)
		}
		got := Decode(b, 256)
		if len(got) != (n+1)/2 {
			t.Fatalf("%d bytes are %d picks", n, len(got))
		}
		for i, p := range got {
			want := Pick{Who: 2 * i, Draw: 2*i + 1}
			if 2*i+1 == n {
				want = Pick{Who: -1}
			}
			if p != want {
				t.Errorf("of %d bytes pick %d is %v, not %v", n, i, p, want)
			}
		}
	}
}

// P4.1
func TestEncode(t *testing.T) {
	for _, c := range []struct {
		l    []Pick
		want []byte
	}{
		{nil, nil},
		{[]Pick{}, nil},
		{[]Pick{{1, 7}, {-1, 8}, {-1, 0}}, []byte{1, 7, 255, 8, 255, 0}},
		{[]Pick{{0, 0}, {254, 255}}, []byte{0, 0, 254, 255}},
		{[]Pick{{255, 1}, {256, 2}, {257, 3}}, []byte{255, 1, 255, 2, 255, 3}},
		{[]Pick{{-2, 1}, {-255, 2}, {-256, 3}}, []byte{255, 1, 255, 2, 255, 3}},
		{[]Pick{{math.MinInt, 256}, {math.MaxInt, 257}}, []byte{255, 0, 255, 1}},
		{[]Pick{{3, -1}, {3, -256}, {3, -257}}, []byte{3, 255, 3, 0, 3, 255}},
		{[]Pick{{3, math.MinInt}, {3, math.MaxInt}}, []byte{3, 0, 3, 255}},
	} {
		if got := Encode(c.l); !slices.Equal(got, c.want) {
			t.Errorf("Encode(%v) is %v, not %v", c.l, got, c.want)
		}
	}
}

// P4.1
func TestEncodeOfEdges(t *testing.T) {
	for _, who := range edges() {
		for _, draw := range edges() {
			first := who
			if who < 0 || who > 254 {
				first = 255
			}
			want := []byte{byte(first), byte(restBy(big.NewInt(int64(draw)), 256))}
			if got := Encode([]Pick{{who, draw}}); !slices.Equal(got, want) {
				t.Fatalf("(%d, %d) is %v, not %v", who, draw, got, want)
			}
		}
	}
}

// P4.2
func TestWho(t *testing.T) {
	for _, c := range []struct {
		l    []Pick
		want []int
	}{
		{nil, nil},
		{[]Pick{}, nil},
		{[]Pick{{4, 1}, {-1, 2}, {4, 3}, {0, 4}}, []int{4, -1, 4, 0}},
		{[]Pick{{math.MaxInt, 0}, {math.MinInt, 0}, {-9, 0}, {255, 0}}, []int{math.MaxInt, math.MinInt, -9, 255}},
	} {
		if got := Who(c.l); !slices.Equal(got, c.want) {
			t.Errorf("Who(%v) is %v, not %v", c.l, got, c.want)
		}
	}
}

// P4.2
func TestRound(t *testing.T) {
	for _, c := range []struct {
		all, rounds, from, draw int
		want                    []Pick
	}{
		{3, 1, 2, 0, []Pick{{2, 0}, {0, 0}, {1, 0}}},
		{1, 1, 0, 5, []Pick{{0, 5}}},
		{1, 3, 9, -5, []Pick{{0, -5}, {0, -5}, {0, -5}}},
		{2, 2, 0, 1, []Pick{{0, 1}, {1, 1}, {0, 1}, {1, 1}}},
		{2, 2, 1, 1, []Pick{{1, 1}, {0, 1}, {1, 1}, {0, 1}}},
		{3, 1, 3, 7, []Pick{{0, 7}, {1, 7}, {2, 7}}},
		{3, 1, 4, 7, []Pick{{1, 7}, {2, 7}, {0, 7}}},
		{3, 1, -1, 7, []Pick{{2, 7}, {0, 7}, {1, 7}}},
		{3, 1, -3, 7, []Pick{{0, 7}, {1, 7}, {2, 7}}},
		{3, 1, -4, 256, []Pick{{2, 256}, {0, 256}, {1, 256}}},
		{5, 1, math.MaxInt, math.MinInt, []Pick{{2, math.MinInt}, {3, math.MinInt}, {4, math.MinInt}, {0, math.MinInt}, {1, math.MinInt}}},
		{5, 1, math.MinInt, math.MaxInt, []Pick{{2, math.MaxInt}, {3, math.MaxInt}, {4, math.MaxInt}, {0, math.MaxInt}, {1, math.MaxInt}}},
	} {
		if got := Round(c.all, c.rounds, c.from, c.draw); !slices.Equal(got, c.want) {
			t.Errorf("Round(%d, %d, %d, %d) is %v, not %v", c.all, c.rounds, c.from, c.draw, got, c.want)
		}
	}
}

// P4.2
func TestRoundOfEdges(t *testing.T) {
	for _, all := range []int{1, 2, 3, 7, 8, 16, 100, 257} {
		for _, from := range edges() {
			got := Round(all, 2, from, from)
			if len(got) != 2*all {
				t.Fatalf("two rounds of %d are %d", all, len(got))
			}
			for i, p := range got {
				at := new(big.Int).Add(big.NewInt(int64(from)), big.NewInt(int64(i)))
				if want := (Pick{Who: restBy(at, all), Draw: from}); p != want {
					t.Fatalf("pick %d of %d from %d on is %v, not %v", i, all, from, p, want)
				}
			}
		}
	}
}

// P4.2
func TestRoundOfNoneAndOfTooMany(t *testing.T) {
	for _, c := range []struct{ all, rounds, want int }{
		{1, 0, 0}, {0, 1, 0}, {0, 0, 0}, {-1, 1, 0}, {1, -1, 0}, {-1, -1, 0}, {-100, -100, 0},
		{math.MinInt, 1, 0}, {1, math.MinInt, 0}, {math.MinInt, math.MinInt, 0}, {math.MinInt, -1, 0}, {-1, math.MinInt, 0},
		{10000, 1, 10000}, {10001, 1, 0}, {1, 10000, 10000}, {1, 10001, 0},
		{100, 100, 10000}, {101, 100, 0}, {100, 101, 0}, {101, 99, 9999}, {3, 3333, 9999}, {3, 3334, 0}, {3333, 3, 9999}, {3334, 3, 0},
		{10000, 2, 0}, {2, 5000, 10000}, {2, 5001, 0}, {5000, 2, 10000}, {5001, 2, 0},
		// Each of these goes round: to 0, to 1, to 4, and to below 0.
		{1 << 32, 1 << 32, 0}, {1 << 63 / 3 * 2, 3, 0}, {1<<62 + 1, 4, 0}, {math.MaxInt, math.MaxInt, 0}, {math.MaxInt, 2, 0}, {2, math.MaxInt, 0},
		{math.MaxInt, 1, 0}, {1, math.MaxInt, 0}, {4, 1<<62 + 1, 0}, {4, 1 << 62, 0},
	} {
		if got := Round(c.all, c.rounds, 1, 2); len(got) != c.want {
			t.Errorf("%d rounds of %d are %d picks, not %d", c.rounds, c.all, len(got), c.want)
		}
	}
}

// P4.3
func TestFair(t *testing.T) {
	for _, c := range []struct {
		l    []Pick
		all  int
		want []Pick
	}{
		{nil, 3, nil},
		{[]Pick{}, 3, nil},
		{[]Pick{{1, 4}}, 3, []Pick{{1, 4}, {0, 4}, {2, 4}}},
		{[]Pick{{0, 4}, {2, 5}}, 3, []Pick{{0, 4}, {1, 4}, {2, 4}, {2, 5}, {0, 5}, {1, 5}}},
		{[]Pick{{-1, 5}}, 2, []Pick{{-1, 5}, {0, 5}, {1, 5}}},
		// One that isn't one of all stays as it is, and leaves nobody out.
		{[]Pick{{-9, 5}, {2, 6}, {99, 7}}, 2, []Pick{{-9, 5}, {0, 5}, {1, 5}, {2, 6}, {0, 6}, {1, 6}, {99, 7}, {0, 7}, {1, 7}}},
		{[]Pick{{0, -3}}, 1, []Pick{{0, -3}}},
		{[]Pick{{7, 300}}, 1, []Pick{{7, 300}, {0, 300}}},
		{[]Pick{{0, 1}, {-1, 2}, {3, 3}}, 0, []Pick{{0, 1}, {-1, 2}, {3, 3}}},
		{[]Pick{{0, 1}, {-1, 2}, {3, 3}}, -1, []Pick{{0, 1}, {-1, 2}, {3, 3}}},
		{[]Pick{{0, 1}, {-1, 2}}, math.MinInt, []Pick{{0, 1}, {-1, 2}}},
		{[]Pick{{math.MinInt, math.MaxInt}}, 1, []Pick{{math.MinInt, math.MaxInt}, {0, math.MaxInt}}},
	} {
		if got := Fair(c.l, c.all); !slices.Equal(got, c.want) {
			t.Errorf("Fair(%v, %d) is %v, not %v", c.l, c.all, got, c.want)
		}
	}
}

// slowFair is Fair as it is told.
func slowFair(l []Pick, all int) []Pick {
	if all < 0 {
		all = 0
	}
	if all > 16 {
		all = 16
	}
	var fair []Pick
	for _, p := range l {
		fair = append(fair, p)
		for who := 0; who < all; who++ {
			if who != p.Who {
				fair = append(fair, Pick{who, p.Draw})
			}
		}
	}
	return fair
}

// P4.3
func TestFairOfSoMany(t *testing.T) {
	l := []Pick{{0, 1}, {15, 2}, {16, 3}, {-1, 4}, {17, 5}, {7, 6}}
	for _, all := range append(edges(), 1, 5, 8, 99) {
		if got, want := Fair(l, all), slowFair(l, all); !slices.Equal(got, want) {
			t.Errorf("Fair(%v, %d) is %v, not %v", l, all, got, want)
		}
	}
	if got := len(Fair(l, 16)); got != 3*16+3*17 {
		t.Error(got)
	}
}

// somePicks are picks of those, of nobody, and of some beyond.
func somePicks(s *numbers, all int) []Pick {
	l := make([]Pick, s.below(12))
	for i := range l {
		l[i] = Pick{Who: s.below(all+4) - 2, Draw: s.below(600) - 300}
	}
	return l
}

// P4.4
func TestFairHasAllInEachStretch(t *testing.T) {
	var s numbers = 1
	for range 3000 {
		all := s.below(20)
		l := somePicks(&s, all)
		fair := Fair(l, all)
		if want := slowFair(l, all); !slices.Equal(fair, want) {
			t.Fatalf("Fair(%v, %d) is %v, not %v", l, all, fair, want)
		}
		all = min(all, 16)
		if len(l) > 3 && len(fair) < 2*all+1 || !plan.Windows(Who(fair), all, 2*all+1) {
			t.Fatalf("Fair(%v, %d) is %v: a stretch hasn't all", l, all, fair)
		}
	}
}

// P4.4
func TestWhatIsEncodedIsDecoded(t *testing.T) {
	for _, all := range []int{0, 1, 2, 3, 8, 16, 254, 255} {
		var l []Pick
		for who := -1; who < all; who++ {
			for _, draw := range []int{0, 1, 127, 128, 254, 255} {
				l = append(l, Pick{who, draw})
			}
		}
		if got := Decode(Encode(l), all); !slices.Equal(got, l) {
			t.Errorf("among %d: not as it was: %v", all, got)
		}
	}
	// 255 is as it was among more, too.
	l := []Pick{{255, 3}, {254, 2}, {0, 255}}
	if got := Decode(Encode(l), 256); !slices.Equal(got, l) {
		t.Error(got)
	}
}

// P4.4
func TestWhatIsDecodedIsEncoded(t *testing.T) {
	var s numbers = 2
	for range 1000 {
		b := make([]byte, 2*s.below(20))
		for i := range b {
			b[i] = byte(s.below(256))
		}
		if got := Encode(Decode(b, 256)); !slices.Equal(got, b) {
			t.Fatalf("%v: %v", b, got)
		}
	}
}

// Rule 3: lists that are handed in are left, and what is told shares nothing.
func TestListsAreLeftAndNew(t *testing.T) {
	b := []byte{1, 7, 9, 8, 0}
	one := Decode(b, 3)
	one[0] = Pick{5, 5}
	if !slices.Equal(b, []byte{1, 7, 9, 8, 0}) || Decode(b, 3)[0] != (Pick{1, 7}) {
		t.Error(b)
	}
	kept := []Pick{{1, 400}, {-5, 2}, {300, 3}}
	l := slices.Clone(kept)
	for range 2 {
		for _, fair := range [][]Pick{Fair(l, 2), Fair(l, 0)} {
			for i := range fair {
				fair[i] = Pick{-7, -7}
			}
		}
		for i, whos := 0, Who(l); i < len(whos); i++ {
			whos[i] = -7
		}
		for i, code := 0, Encode(l); i < len(code); i++ {
			code[i] = 9
		}
		if !slices.Equal(l, kept) {
			t.Fatal(l)
		}
	}
	first := Round(2, 2, 0, 1)
	first[0] = Pick{-7, -7}
	if Round(2, 2, 0, 1)[0] != (Pick{0, 1}) {
		t.Error(Round(2, 2, 0, 1))
	}
}
