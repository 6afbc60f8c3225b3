package probe

import "slices"

// Roomy: the list with spare room that is filled, and the whole with that room.
func Roomy[T any](items []T, spare T) (list, whole []T) {
	whole = append(slices.Clone(items), spare, spare, spare)
	return whole[:len(items)], whole
}

// Spoil writes over a list, its spare room too, and appends to it.
func Spoil[T any](list []T, with T) {
	room := list[:cap(list)]
	for i := range room {
		room[i] = with
	}
	_ = append(list, with, with)
}
