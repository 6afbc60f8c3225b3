package bucket

import (
	"slices"

	"tangram/api"
)

// keysOf: by place the item's key, each asked once and none behind the first that is out of range.
func keysOf[T any](items []T, key func(T) int, most int) ([]int, api.Errno) {
	if most < 0 || most > api.MaxKey || key == nil {
		return nil, api.ErrRange
	}
	keys := make([]int, len(items))
	for i, item := range items {
		k := key(item)
		if k < 0 || k > most {
			return nil, api.ErrKey
		}
		keys[i] = k
	}
	return keys, api.OK
}

// itself: numbers are their own keys.
func itself(k int) int { return k }

// counts: by key, how often it stands there; up to the greatest one that does, so that a great most alone lays no memory.
func counts(keys []int) []int {
	if len(keys) == 0 {
		return nil
	}
	count := make([]int, slices.Max(keys)+1)
	for _, k := range keys {
		count[k]++
	}
	return count
}

// ranks: by place, where it comes to stand: the places of each key begin behind those of all smaller ones.
func ranks(keys []int) []int {
	free := counts(keys)
	ahead := 0
	for k, count := range free {
		free[k] = ahead
		ahead += count
	}
	rank := make([]int, len(keys))
	for i, k := range keys {
		rank[i] = free[k]
		free[k]++
	}
	return rank
}
