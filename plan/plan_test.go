package plan

import (
	"container/heap"
	"math"
	"slices"
	"testing"
)

// numbers are the same ones each time, each from 0 to below n.
type numbers uint64

func (s *numbers) below(n int) int {
	*s = *s*6364136223846793005 + 1442695040888963407
	return int(uint64(*s)>>33) % n
}

// held is a period as it counts.
func held(period int) int {
	if period < 1 {
		return 1
	}
	if period > 1000 {
		return 1000
	}
	return period
}

// looked is Order as it is told, each turn looked for among all.
func looked(periods []int, n int) []int {
	due := make([]int, len(periods))
	for who, period := range periods {
		due[who] = held(period)
	}
	var turns []int
	for len(turns) < n && len(periods) > 0 {
		first := 0
		for who := range due {
			if due[who] < due[first] {
				first = who
			}
		}
		turns = append(turns, first)
		due[first] += held(periods[first])
	}
	return turns
}

// slow is Windows as it is told, each stretch looked at by itself.
func slow(l []int, all, wide int) bool {
	if all < 1 || len(l) < wide {
		return true
	}
	if wide < 1 {
		return false
	}
	for from := 0; from+wide <= len(l); from++ {
		for who := range all {
			if !slices.Contains(l[from:from+wide], who) {
				return false
			}
		}
	}
	return true
}

// P3.1
func TestOrder(t *testing.T) {
	for _, c := range []struct {
		periods []int
		n       int
		want    []int
	}{
		{[]int{2, 3, 6}, 6, []int{0, 1, 0, 0, 1, 2}},
		{[]int{2, 3, 6}, 12, []int{0, 1, 0, 0, 1, 2, 0, 1, 0, 0, 1, 2}},
		{[]int{6, 3, 2}, 6, []int{2, 1, 2, 0, 1, 2}},
		{[]int{2, 3, 6}, 1, []int{0}},
		{[]int{3, 2}, 1, []int{1}},
		{[]int{7}, 3, []int{0, 0, 0}},
		{[]int{1, 1, 1, 1}, 9, []int{0, 1, 2, 3, 0, 1, 2, 3, 0}},
		{[]int{5, 5, 5}, 7, []int{0, 1, 2, 0, 1, 2, 0}},
		{[]int{4, 1}, 6, []int{1, 1, 1, 0, 1, 1}},
		{[]int{1, 4}, 6, []int{0, 0, 0, 0, 1, 0}},
	} {
		if got := Order(c.periods, c.n); !slices.Equal(got, c.want) {
			t.Errorf("Order(%v, %d) is %v, not %v", c.periods, c.n, got, c.want)
		}
	}
}

// P3.1
func TestOrderOfNone(t *testing.T) {
	for _, n := range []int{math.MinInt, -1000, -1, 0} {
		if got := Order([]int{2, 3, 6}, n); len(got) != 0 {
			t.Errorf("%d turns are %v", n, got)
		}
	}
	for _, n := range []int{math.MinInt, -1, 0, 1, 5, 1000, math.MaxInt} {
		if got := Order(nil, n); len(got) != 0 {
			t.Errorf("%d turns of nobody are %v", n, got)
		}
		if got := Order([]int{}, n); len(got) != 0 {
			t.Errorf("%d turns of nobody are %v", n, got)
		}
	}
}

// P3.1
func TestPeriodsAreHeldFrom1To1000(t *testing.T) {
	for _, c := range []struct{ told, count int }{
		{math.MinInt, 1}, {-1000, 1}, {-1, 1}, {0, 1}, {1, 1}, {2, 2},
		{999, 999}, {1000, 1000}, {1001, 1000}, {2000, 1000}, {math.MaxInt - 1, 1000}, {math.MaxInt, 1000},
	} {
		for _, other := range []int{1, 2, 3, 500, 999, 1000} {
			for _, n := range []int{3, 2500} {
				got, want := Order([]int{c.told, other}, n), Order([]int{c.count, other}, n)
				if !slices.Equal(got, want) {
					t.Errorf("a period of %d beside %d doesn't count as %d", c.told, other, c.count)
				}
				got, want = Order([]int{other, c.told}, n), looked([]int{other, c.count}, n)
				if !slices.Equal(got, want) {
					t.Errorf("a period of %d behind %d doesn't count as %d", c.told, other, c.count)
				}
			}
		}
	}
}

// P3.1
func TestLongestPeriodIsDueAt1000(t *testing.T) {
	got := Order([]int{math.MaxInt, 1}, 1002)
	if slices.Index(got, 0) != 999 || Gap(got, 1) != 1 {
		t.Error(slices.Index(got, 0), Gap(got, 1))
	}
}

// P3.1
func TestOrderIsAsLookedFor(t *testing.T) {
	var s numbers = 1
	for range 400 {
		periods := make([]int, 1+s.below(9))
		wide := []int{3, 12, 40, 1300}[s.below(4)]
		for i := range periods {
			periods[i] = s.below(wide) - 2
		}
		n := s.below(300)
		if got, want := Order(periods, n), looked(periods, n); !slices.Equal(got, want) {
			t.Fatalf("Order(%v, %d) is %v, not %v", periods, n, got, want)
		}
	}
}

// P3.1
func TestOrderOfManyPeriods(t *testing.T) {
	periods := make([]int, 300)
	for i := range periods {
		periods[i] = 1 + i*37%50
	}
	if got, want := Order(periods, 3000), looked(periods, 3000); !slices.Equal(got, want) {
		t.Error("not as looked for")
	}
}

// P3.1
func TestFewerTurnsAreAsTheFirstOfMore(t *testing.T) {
	periods := []int{5, 2, 9, 2}
	all := Order(periods, 60)
	for n := range 61 {
		if got := Order(periods, n); !slices.Equal(got, all[:n]) {
			t.Errorf("%d turns are %v", n, got)
		}
	}
}

// P3.1
func TestPeriodsAreLeftAndTurnsAreNew(t *testing.T) {
	periods := []int{0, 2000, -3, 4}
	one := Order(periods, 8)
	if !slices.Equal(periods, []int{0, 2000, -3, 4}) {
		t.Error(periods)
	}
	want := slices.Clone(one)
	other := Order(periods, 8)
	for i := range one {
		one[i] = -7
	}
	if !slices.Equal(other, want) || !slices.Equal(Order(periods, 8), want) {
		t.Error(other, want)
	}
}

// Rule 1: beyond what anything is promised of it ends, too.
func TestOrderEndsForTheMostTurns(t *testing.T) {
	for _, n := range []int{1 << 31, 1 << 40, math.MaxInt - 1, math.MaxInt} {
		if got := Order([]int{2, 3}, n); len(got) != 0 {
			t.Errorf("%d turns are %d", n, len(got))
		}
	}
}

// P3.1: those who come and go stand in a line as those who stay.
func TestLineIsAHeap(t *testing.T) {
	l := lined([]int{7, 3, 9})
	heap.Push(l, wait{who: 3, period: 2, due: 2})
	heap.Push(l, wait{who: 4, period: 3, due: 3})
	heap.Push(l, 5)
	var got []int
	for l.Len() > 0 {
		if w, ok := heap.Pop(l).(wait); ok {
			got = append(got, w.who)
		}
	}
	if !slices.Equal(got, []int{3, 1, 4, 0, 2}) {
		t.Error(got)
	}
}

// P3.2
func TestGap(t *testing.T) {
	for _, c := range []struct {
		l    []int
		who  int
		want int
	}{
		{nil, 0, 0},
		{[]int{}, 0, 0},
		{[]int{0}, 0, 0},
		{[]int{0}, 1, 1},
		{[]int{0, 0, 0}, 0, 0},
		{[]int{0, 1, 1, 2, 0}, 0, 3},
		{[]int{0, 1, 1, 2, 0}, 1, 2},
		{[]int{0, 1, 1, 2, 0}, 2, 3},
		{[]int{0, 1, 1, 2, 0}, 9, 5},
		{[]int{0, 1, 1, 2, 0}, -1, 5},
		{[]int{1, 1, 1, 0, 1}, 0, 3},
		{[]int{1, 0, 1, 1, 1}, 0, 3},
		{[]int{1, 0, 1, 1, 0, 1}, 0, 2},
		{[]int{1, 1, 0, 1, 0, 0}, 0, 2},
		{[]int{-4, 2, -4, -4, 2}, 2, 2},
		{[]int{-4, 2, 2, -4, -4, 2}, -4, 2},
		{[]int{math.MinInt, math.MaxInt}, math.MinInt, 1},
	} {
		if got := Gap(c.l, c.who); got != c.want {
			t.Errorf("Gap(%v, %d) is %d, not %d", c.l, c.who, got, c.want)
		}
	}
}

// P3.2
func TestWindows(t *testing.T) {
	l := []int{0, 1, 1, 2, 0}
	for _, c := range []struct {
		l         []int
		all, wide int
		want      bool
	}{
		{l, 3, 4, true},
		{l, 3, 3, false},
		{l, 3, 5, true},
		{l, 4, 5, false},
		{l, 2, 4, true},
		{l, 2, 3, false},
		{l, 1, 3, false},
		{l, 1, 4, true},
		{l, 6, 5, false},
		{l, math.MaxInt, 5, false},
		{l, math.MaxInt, 1, false},
		{[]int{0}, 1, 1, true},
		{[]int{1}, 1, 1, false},
		{[]int{0, 0, 0}, 1, 1, true},
		{[]int{0, 0, 1}, 1, 1, false},
		{[]int{1, 0, 0}, 1, 1, false},
		{[]int{0, 1, 0, 1}, 2, 2, true},
		{[]int{0, 1, 1, 0}, 2, 2, false},
		// Whoever isn't of those is one turn of a stretch, no more.
		{[]int{-1, 0, 7, 1, -1, 0, 7, 1}, 2, 4, true},
		{[]int{-1, 0, 7, 1, -1, 0, 7, 1}, 2, 3, false},
		{[]int{math.MinInt, 0, math.MaxInt, 0}, 1, 2, true},
		{[]int{2, 2, 2}, 2, 3, false},
	} {
		if got := Windows(c.l, c.all, c.wide); got != c.want {
			t.Errorf("Windows(%v, %d, %d) is %v", c.l, c.all, c.wide, got)
		}
	}
}

// P3.2
func TestWindowsOfNobody(t *testing.T) {
	for _, l := range [][]int{nil, {}, {0}, {1, 2, 3}} {
		for _, all := range []int{math.MinInt, -1, 0} {
			for _, wide := range []int{math.MinInt, -1, 0, 1, 2, 9, math.MaxInt} {
				if !Windows(l, all, wide) {
					t.Errorf("Windows(%v, %d, %d) is false", l, all, wide)
				}
			}
		}
	}
}

// P3.2
func TestWindowsWiderThanTheList(t *testing.T) {
	for _, l := range [][]int{nil, {}, {0}, {5, 5, 5}} {
		for _, all := range []int{1, 2, 4, 100, math.MaxInt} {
			for _, wide := range []int{len(l) + 1, len(l) + 2, 1000, math.MaxInt} {
				if !Windows(l, all, wide) {
					t.Errorf("Windows(%v, %d, %d) is false", l, all, wide)
				}
			}
		}
	}
}

// P3.2
func TestWindowsOfNoTurns(t *testing.T) {
	for _, l := range [][]int{nil, {}, {0}, {0, 1, 0, 1}} {
		for _, all := range []int{1, 2, 100, math.MaxInt} {
			for _, wide := range []int{math.MinInt, -1, 0} {
				if Windows(l, all, wide) {
					t.Errorf("Windows(%v, %d, %d) is true", l, all, wide)
				}
			}
		}
	}
}

// P3.2
func TestWindowsIsAsLookedFor(t *testing.T) {
	var s numbers = 2
	told := [2]int{}
	for range 6000 {
		of := 1 + s.below(4)
		l := make([]int, s.below(12))
		for i := range l {
			l[i] = s.below(of+1) - s.below(2)
		}
		all, wide := s.below(of+2)-1, s.below(15)-1
		want := slow(l, all, wide)
		if got := Windows(l, all, wide); got != want {
			t.Fatalf("Windows(%v, %d, %d) is %v", l, all, wide, got)
		}
		if want {
			told[1]++
		} else {
			told[0]++
		}
	}
	if told[0] < 500 || told[1] < 500 {
		t.Error(told)
	}
}

// P3.2
func TestGapIsWhatWindowsNeeds(t *testing.T) {
	var s numbers = 3
	for range 2000 {
		all := 1 + s.below(4)
		l := make([]int, 1+s.below(20))
		for i := range l {
			l[i] = s.below(all)
		}
		gap := 0
		for who := range all {
			gap = max(gap, Gap(l, who))
		}
		if gap > 0 && Windows(l, all, gap) || !Windows(l, all, gap+1) {
			t.Fatalf("%v: %d, all %d", l, gap, all)
		}
	}
}

// P3.2
func TestListsOfTurnsAreLeft(t *testing.T) {
	l := []int{0, 1, 5, -1, 0}
	Windows(l, 2, 2)
	Gap(l, 1)
	if !slices.Equal(l, []int{0, 1, 5, -1, 0}) {
		t.Error(l)
	}
}

// wholly is as many turns as have all of such periods.
func wholly(periods []int) int {
	longest := 0
	for _, period := range periods {
		longest = max(longest, held(period))
	}
	wide := 1
	for _, period := range periods {
		wide += (longest + held(period) - 1) / held(period)
	}
	return wide
}

// P3.3
func TestEachStretchHasAll(t *testing.T) {
	if wide := wholly([]int{2, 3, 6}); wide != 7 {
		t.Fatal(wide)
	}
	var s numbers = 4
	lists := [][]int{{2, 3, 6}, {1}, {1000}, {1, 1000}, {1000, 1}, {7, 7, 7}, {math.MinInt, math.MaxInt, 0}, {1, 2, 3, 5, 7, 11}}
	for range 120 {
		periods := make([]int, 1+s.below(6))
		for i := range periods {
			periods[i] = s.below(60) - 1
		}
		lists = append(lists, periods)
	}
	for _, periods := range lists {
		wide := wholly(periods)
		turns := Order(periods, 4*wide+100)
		if len(turns) != 4*wide+100 || !Windows(turns, len(periods), wide) || !slow(turns, len(periods), wide) {
			t.Errorf("%v: a stretch of %d hasn't all", periods, wide)
		}
		for who := range periods {
			if gap := Gap(turns, who); gap >= wide {
				t.Errorf("%v: %d turns without %d", periods, gap, who)
			}
		}
	}
}
