package sizes

import (
	"math"
	"testing"

	"dustman/api"
)

// slotsOf is how many slots each class's cell has, as the document tells it.
var slotsOf = [5]int{1, 2, 4, 8, 16}

// P2.1
func TestSlotsAndWords(t *testing.T) {
	for k, n := range slotsOf {
		if got := Slots(k); got != n {
			t.Errorf("Slots(%d) is %d, not %d", k, got, n)
		}
		if got := Words(k); got != n+1 {
			t.Errorf("Words(%d) is %d, not %d", k, got, n+1)
		}
	}
}

// P2.1
func TestNoClassHasNoSlots(t *testing.T) {
	for _, k := range []int{math.MinInt, math.MinInt + 2, -64, -2, -1, 5, 6, 62, 63, 64, 66, 1 << 32, math.MaxInt} {
		if got := Slots(k); got != 0 {
			t.Errorf("Slots(%d) is %d, not 0", k, got)
		}
		if got := Words(k); got != 0 {
			t.Errorf("Words(%d) is %d, not 0", k, got)
		}
	}
}

// P2.1
func TestOf(t *testing.T) {
	want := [17]int{0, 0, 1, 2, 2, 3, 3, 3, 3, 4, 4, 4, 4, 4, 4, 4, 4}
	for n, k := range want {
		if got := Of(n); got != k {
			t.Errorf("Of(%d) is %d, not %d", n, got, k)
		}
	}
	for _, n := range []int{math.MinInt, math.MinInt + 1, -16, -2, -1, 17, 18, 32, 1 << 32, math.MaxInt - 1, math.MaxInt} {
		if got := Of(n); got != -1 {
			t.Errorf("Of(%d) is %d, not -1", n, got)
		}
	}
}

// P2.3
func TestLessThanTwiceAsManySlotsAsAreAsked(t *testing.T) {
	for n := 1; n <= 16; n++ {
		k := Of(n)
		if got := Slots(k); got < n || got >= 2*n {
			t.Errorf("class %d of %d slots has %d", k, n, got)
		}
		if k > 0 && Slots(k-1) >= n {
			t.Errorf("class %d of %d slots isn't the least", k, n)
		}
	}
}

// P2.2
func TestCells(t *testing.T) {
	for _, c := range []struct {
		cells        [5]int
		nodes, total int
	}{
		{[5]int{}, 0, 0},
		{[5]int{2, 0, 1, 0, 0}, 3, 9},
		{[5]int{1, 0, 0, 0, 0}, 1, 2},
		{[5]int{0, 1, 0, 0, 0}, 1, 3},
		{[5]int{0, 0, 1, 0, 0}, 1, 5},
		{[5]int{0, 0, 0, 1, 0}, 1, 9},
		{[5]int{0, 0, 0, 0, 1}, 1, 17},
		{[5]int{1, 2, 3, 4, 5}, 15, 2 + 6 + 15 + 36 + 85},
		{[5]int{12, 12, 12, 12, 12}, 60, 12 * 36},
		{[5]int{13, 13, 13, 13, 13}, 60, 12 * 36},
		{[5]int{1, -3, 99, 0, 1}, 14, 2 + 60 + 17},
		{[5]int{-1, -1, -1, -1, -1}, 0, 0},
		{[5]int{math.MinInt, math.MaxInt, math.MinInt, math.MaxInt, 1}, 25, 36 + 108 + 17},
		{[5]int{math.MaxInt, math.MaxInt, math.MaxInt, math.MaxInt, math.MaxInt}, 60, 12 * 36},
		{[5]int{math.MinInt, math.MinInt, math.MinInt, math.MinInt, math.MinInt}, 0, 0},
	} {
		if got := Nodes(c.cells); got != c.nodes {
			t.Errorf("Nodes(%v) is %d, not %d", c.cells, got, c.nodes)
		}
		if got := Total(c.cells); got != c.total {
			t.Errorf("Total(%v) is %d, not %d", c.cells, got, c.total)
		}
	}
}

// P2.2
func TestClass(t *testing.T) {
	for _, c := range []struct {
		cells   [5]int
		v, want int
	}{
		{[5]int{2, 0, 1, 0, 0}, 1, 0},
		{[5]int{2, 0, 1, 0, 0}, 2, 0},
		{[5]int{2, 0, 1, 0, 0}, 3, 2},
		{[5]int{2, 0, 1, 0, 0}, 4, -1},
		{[5]int{2, 0, 1, 0, 0}, 0, -1},
		{[5]int{2, 0, 1, 0, 0}, -1, -1},
		{[5]int{2, 0, 1, 0, 0}, math.MinInt, -1},
		{[5]int{2, 0, 1, 0, 0}, math.MaxInt, -1},
		{[5]int{}, 0, -1},
		{[5]int{}, 1, -1},
		{[5]int{0, 0, 0, 0, 1}, 1, 4},
		{[5]int{0, 0, 0, 0, 1}, 2, -1},
		{[5]int{-5, 1, 0, 0, 0}, 1, 1},
		{[5]int{math.MinInt, 1, 0, 0, 0}, 1, 1},
		{[5]int{13, 1, 0, 0, 0}, 12, 0},
		{[5]int{13, 1, 0, 0, 0}, 13, 1},
		{[5]int{13, 1, 0, 0, 0}, 14, -1},
		{[5]int{math.MaxInt, math.MaxInt, 0, 0, 0}, 13, 1},
		{[5]int{math.MaxInt, math.MaxInt, 0, 0, 0}, 25, -1},
		{[5]int{12, 12, 12, 12, 12}, 60, 4},
		{[5]int{12, 12, 12, 12, 12}, 61, -1},
	} {
		if got := Class(c.cells, c.v); got != c.want {
			t.Errorf("Class(%v, %d) is %d, not %d", c.cells, c.v, got, c.want)
		}
	}
}

// laidOut is the class of each cell, in the order of their numbers.
func laidOut(cells [5]int) []int {
	var classes []int
	for k, n := range cells {
		for i := 0; i < n && i < api.MaxCells; i++ {
			classes = append(classes, k)
		}
	}
	return classes
}

// someCells are cells with the edges of a count at each class.
func someCells() [][5]int {
	counts := []int{math.MinInt, -1, 0, 1, 3, 12, 13, math.MaxInt}
	list := [][5]int{{}}
	for k := range 5 {
		var next [][5]int
		for _, cells := range list {
			for _, n := range counts {
				cells[k] = n
				next = append(next, cells)
			}
		}
		list = next
	}
	return list
}

// P2.2
func TestCellsLaidOutOneByOne(t *testing.T) {
	for _, cells := range someCells() {
		classes := laidOut(cells)
		total := 0
		for i, k := range classes {
			total += slotsOf[k] + 1
			if got := Class(cells, i+1); got != k {
				t.Fatalf("Class(%v, %d) is %d, not %d", cells, i+1, got, k)
			}
		}
		if got := Nodes(cells); got != len(classes) {
			t.Fatalf("Nodes(%v) is %d, not %d", cells, got, len(classes))
		}
		if got := Total(cells); got != total {
			t.Fatalf("Total(%v) is %d, not %d", cells, got, total)
		}
		for _, v := range []int{math.MinInt, -1, 0, len(classes) + 1, len(classes) + 2, math.MaxInt} {
			if got := Class(cells, v); got != -1 {
				t.Fatalf("Class(%v, %d) is %d, not -1", cells, v, got)
			}
		}
	}
}
