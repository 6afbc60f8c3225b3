package probe

import (
	"iter"
	"slices"

	"tangram/api"
)

// Choices: all lists that have in each place one of the items for that place; there is one for each.
func Choices[T any](items [][]T) iter.Seq[[]T] {
	return func(yield func([]T) bool) {
		chosen := make([]int, len(items))
		for more := true; more; more = another(chosen, items) {
			list := make([]T, len(items))
			for place, k := range chosen {
				list[place] = items[place][k]
			}
			if !yield(list) {
				return
			}
		}
	}
}

// another goes on to the next choice; false: that was the last one.
func another[T any](chosen []int, items [][]T) bool {
	for place := range chosen {
		chosen[place]++
		if chosen[place] < len(items[place]) {
			return true
		}
		chosen[place] = 0
	}
	return false
}

// rotations: those whose lists are some of the arrangements of the half-edges that leave a vertex.
func rotations(g api.Graph, arranged func(list []int) [][]int) iter.Seq[api.Rotation] {
	var lists [][][]int
	for _, list := range Leaving(g) {
		slices.Sort(list)
		lists = append(lists, arranged(list))
	}
	return func(yield func(api.Rotation) bool) {
		for r := range Choices(lists) {
			if !yield(r) {
				return
			}
		}
	}
}

// Rotations: all canonical rotations of a graph. They have lists in common: they are for reading alone.
func Rotations(g api.Graph) iter.Seq[api.Rotation] {
	return rotations(g, func(list []int) [][]int {
		if len(list) == 0 {
			return [][]int{nil}
		}
		var all [][]int
		for _, rest := range Arranged(list[1:]) {
			all = append(all, append([]int{list[0]}, rest...))
		}
		return all
	})
}

// TurnedRotations: all rotations of a graph, wherever their lists begin. They have lists in common: they are for reading alone.
func TurnedRotations(g api.Graph) iter.Seq[api.Rotation] { return rotations(g, Arranged[int]) }

// Rotation: a rotation of the graph that is thrown; its lists begin anywhere.
func (d *Dice) Rotation(g api.Graph) api.Rotation {
	r := api.Rotation(Leaving(g))
	for v, list := range r {
		r[v] = Mixed(d, list)
	}
	return r
}

// Turn: the list, beginning at that place.
func Turn(list []int, at int) []int { return slices.Concat(list[at:], list[:at]) }

// Turned: each list begins at a place that is thrown.
func (d *Dice) Turned(r api.Rotation) api.Rotation {
	turned := CopyLists(r)
	for v, list := range turned {
		if len(list) > 0 {
			turned[v] = Turn(list, d.Below(len(list)))
		}
	}
	return turned
}

// CopyLists: the same numbers in lists of their own.
func CopyLists(lists [][]int) [][]int {
	all := make([][]int, len(lists))
	for i, list := range lists {
		all[i] = slices.Clone(list)
	}
	return all
}

// SameLists: are they as many, and have they the same numbers?
func SameLists(a, b [][]int) bool { return slices.EqualFunc(a, b, slices.Equal[[]int]) }
