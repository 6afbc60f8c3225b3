package lr

import "slices"

// sides tells the side of an edge by that of another one, so that whole intervals turn when one edge does.
type sides struct {
	like []int // by edge: the one whose side it is told by; none: it is told for itself
	turn []int // by edge: 1, if it is on the side of that one (for itself: on the side 1); -1, if it is on the other
}

func newSides(count int) sides {
	return sides{like: slices.Repeat([]int{none}, count), turn: slices.Repeat([]int{1}, count)}
}

// join: two intervals of one side as one. No edge of the lower one leads to a greater height than one of the upper one.
func (s *sides) join(upper, lower interval) interval {
	switch {
	case upper.empty():
		return lower
	case lower.empty():
		return upper
	}
	s.like[upper.low] = lower.high
	return interval{high: upper.high, low: lower.low}
}

// side: it goes by what the edge is like, and tells all that it comes by for itself, so that nothing is gone by twice.
func (s *sides) side(e int) int {
	var way []int
	for x := e; s.like[x] != none; x = s.like[x] {
		way = append(way, x)
	}
	for _, x := range slices.Backward(way) {
		s.turn[x] *= s.turn[s.like[x]]
		s.like[x] = none
	}
	return s.turn[e]
}
