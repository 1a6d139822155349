// Package words is numbers in words.
package words

// Phases of a cycle.
const (
	Idle     = 0
	Arming   = 1
	Settling = 2
	Rooting  = 3
	Marking  = 4
	Sweeping = 5
)

// base is what a word is parted by into two numbers, the whole part and the rest.
type base uint64

const (
	phases base = 8
	halves base = 1 << 32
)

// part is a word's two numbers.
func (b base) part(w uint64) [2]uint64 {
	return [2]uint64{w / uint64(b), w % uint64(b)}
}

// join is two numbers as a word, each as its rest: a base divides 2^64, so the
// product's going round is the first one's rest.
func (b base) join(numbers [2]uint64) uint64 {
	return numbers[0]*uint64(b) + numbers[1]%uint64(b)
}

// holds tells whether a word, parted so, has just those two numbers.
func holds(part func(uint64) [2]uint64, w uint64, numbers [2]uint64) bool {
	return part(w) == numbers
}

// Phase is a cycle and its phase, as a word.
func Phase(cycle uint64, phase int) uint64 {
	// A phase below 0 goes round to a word that has the same rest by 8.
	return phases.join([2]uint64{cycle, uint64(phase)})
}

// Cycle is a phase's word's cycle, and its phase.
func Cycle(w uint64) (uint64, int) {
	numbers := phases.part(w)
	return numbers[0], int(numbers[1])
}

// Pair is two numbers as a word.
func Pair(high, low uint32) uint64 {
	return halves.join([2]uint64{uint64(high), uint64(low)})
}

// Split is a word's two numbers.
func Split(w uint64) (uint32, uint32) {
	numbers := halves.part(w)
	return uint32(numbers[0]), uint32(numbers[1])
}

// Turn is a word whose high number is one more, with another low one.
func Turn(w uint64, low uint32) uint64 {
	high, _ := Split(w)
	return Pair(high+1, low)
}

// Ahead is how far a number is ahead of another one, round the end.
func Ahead(a, b uint64) int64 {
	// 2^63 alone is as far on as it is back, and only the way back is an int64;
	// with it told here, neither conversion below goes round.
	if holds(halves.part, a-b, [2]uint64{1 << 31, 0}) {
		return -1 << 63
	}
	if on := a - b; on < 1<<63 {
		return int64(on)
	}
	return -int64(b - a)
}
