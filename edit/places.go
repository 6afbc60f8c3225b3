package edit

// none: the place of a number that isn't in the list.
const none = -1

// isNumber: is it one of 0 to count - 1?
func isNumber(x, count int) bool { return x >= 0 && x < count }

// places: by number, of 0 to count - 1, its place in the list. False, if another number stands there, or one twice.
func places(count int, list []int) ([]int, bool) {
	place := make([]int, count)
	for x := range place {
		place[x] = none
	}
	for i, x := range list {
		if !isNumber(x, count) || place[x] != none {
			return nil, false
		}
		place[x] = i
	}
	return place, true
}
