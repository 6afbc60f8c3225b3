package rot

import "slices"

// leastFirst: the turn of the list that begins with the first of its least elements.
func leastFirst(list []int) []int {
	least := 0
	for i, h := range list {
		if h < list[least] {
			least = i
		}
	}
	return slices.Concat(list[least:], list[:least])
}

func backward(list []int) []int {
	list = slices.Clone(list)
	slices.Reverse(list)
	return list
}

// isTurn looks for a in b said twice. By its borders no element is looked at again and again, however many are equal.
func isTurn(a, b []int) bool {
	if len(a) != len(b) {
		return false
	}
	if len(a) == 0 {
		return true
	}
	border := borders(a)
	met := 0 // so many elements of a stand last in what has been gone by
	for i := range 2 * len(b) {
		met = further(a, border, met, b[i%len(b)])
		if met == len(a) {
			return true
		}
	}
	return false
}

// borders: by place, how many elements, fewer than all up to it, stand both first in the list and last up to that place: the most there are.
func borders(list []int) []int {
	border := make([]int, len(list))
	for i := 1; i < len(list); i++ {
		border[i] = further(list, border, border[i-1], list[i])
	}
	return border
}

// further: how many of the list's first elements stand last once x has come, where so many did before: fewer than all.
func further(list, border []int, met, x int) int {
	for met > 0 && list[met] != x {
		met = border[met-1]
	}
	if list[met] == x {
		met++
	}
	return met
}
