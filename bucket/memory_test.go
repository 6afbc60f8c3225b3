package bucket_test

import (
	"math"
	"slices"
	"sync"
	"testing"

	"tangram/api"
	"tangram/bucket"
	"tangram/probe"
)

// TestTypes: items of several types, some of which can't be compared.
func TestTypes(t *testing.T) {
	runes, code := bucket.Sort([]rune{0xe9, 0x7a, 0x61, 0xe9}, func(r rune) int { return int(r) }, 255)
	if !slices.Equal(runes, []rune{0x61, 0x7a, 0xe9, 0xe9}) || code != api.OK {
		t.Errorf("P6.1: runes: %v, %d", runes, code)
	}
	lists, code := bucket.Sort([][]int{{1, 2}, nil, {3}, {}, {4}}, func(l []int) int { return len(l) }, 2)
	if !slices.EqualFunc(lists, [][]int{nil, {}, {3}, {4}, {1, 2}}, slices.Equal[[]int]) || code != api.OK {
		t.Errorf("P6.1: lists: %v, %d", lists, code)
	}
	edges, code := bucket.Sort([]api.Edge{{U: 0, V: 3}, {U: 1, V: 2}, {U: 2, V: 3}}, func(e api.Edge) int { return e.V }, 3)
	if !slices.Equal(edges, []api.Edge{{U: 1, V: 2}, {U: 0, V: 3}, {U: 2, V: 3}}) || code != api.OK {
		t.Errorf("P6.1: edges: %v, %d", edges, code)
	}
	words, code := bucket.Sort([]any{"three", 1, nil, "a"}, func(x any) int {
		if s, ok := x.(string); ok {
			return len(s)
		}
		return 0
	}, 5)
	if !slices.Equal(words, []any{1, nil, "a", "three"}) || code != api.OK {
		t.Errorf("P6.1: any: %v, %d", words, code)
	}
	arrays, code := bucket.Sort([][2]int{{1, 9}, {0, 8}, {1, 7}}, func(a [2]int) int { return a[0] }, 1)
	if !slices.Equal(arrays, [][2]int{{0, 8}, {1, 9}, {1, 7}}) || code != api.OK {
		t.Errorf("P6.1: arrays: %v, %d", arrays, code)
	}
	calls, code := bucket.Sort([]func() int{func() int { return 2 }, func() int { return 1 }}, func(f func() int) int { return f() }, 2)
	if len(calls) != 2 || calls[0]() != 1 || calls[1]() != 2 || code != api.OK {
		t.Errorf("P6.1: functions: %d, %d", len(calls), code)
	}
	none, code := bucket.Sort(make([]struct{}, 3), func(struct{}) int { return 0 }, 0)
	if len(none) != 3 || code != api.OK {
		t.Errorf("P6.1: items of no size: %d, %d", len(none), code)
	}
}

// TestSameThings: pointers stay the same pointers, and a float that isn't a number is an item like others.
func TestSameThings(t *testing.T) {
	a, b, c := &item{1, 0}, &item{0, 1}, &item{1, 2}
	pointers, code := bucket.Sort([]*item{a, b, c, a, nil}, func(x *item) int {
		if x == nil {
			return 0
		}
		return x.key
	}, 1)
	if !slices.Equal(pointers, []*item{b, nil, a, c, a}) || code != api.OK {
		t.Errorf("P6.1: pointers: %v, %d", pointers, code)
	}
	floats, code := bucket.Sort([]float64{2.5, math.NaN(), 0.5}, func(x float64) int {
		if x != x {
			return 1
		}
		return int(x)
	}, 2)
	if len(floats) != 3 || floats[0] != 0.5 || floats[1] == floats[1] || floats[2] != 2.5 || code != api.OK {
		t.Errorf("P6.1: floats: %v, %d", floats, code)
	}
}

// TestOneKey: what has one key stays in its order, and what has been sorted stays as it is.
func TestOneKey(t *testing.T) {
	d := probe.Dice(16)
	for range 50 {
		items := itemsOf(drawn(1+d.Below(60), func(int) int { return d.Below(5) }))
		same, code := bucket.Sort(items, func(item) int { return 3 }, 4)
		if !slices.Equal(same, items) || code != api.OK {
			t.Fatalf("P6.1: one key for all: %v, want %v", same, items)
		}
		once, _ := bucket.Sort(items, keyOf, 4)
		twice, _ := bucket.Sort(once, keyOf, 4)
		if !slices.Equal(once, twice) {
			t.Fatalf("P6.1: %v, sorted again %v", once, twice)
		}
	}
}

// roomy: a list with spare room that is filled too, and the whole with that room.
func roomy[T any](items []T, spare ...T) (list, whole []T) {
	whole = slices.Concat(items, spare)
	return whole[:len(items)], whole
}

func TestArgumentsUnchanged(t *testing.T) {
	d := probe.Dice(26)
	for round := range 60 {
		keys := drawn(d.Below(20), func(int) int { return d.Below(6) - round%2 }) // in every second round wrong keys may be among them
		list, whole := roomy(keys, 3, 1, 2, 1)
		before := slices.Clone(whole)
		items, all := roomy(itemsOf(keys), item{2, 9}, item{1, 9})
		allBefore := slices.Clone(all)
		for most := -1; most <= 6; most++ {
			bucket.Ranks(list, most)
			bucket.Group(list, most)
			bucket.Sort(items, keyOf, most)
		}
		if !slices.Equal(whole, before) || !slices.Equal(all, allBefore) {
			t.Fatalf("R5: the arguments have been changed: %v, %v", whole, all)
		}
	}
}

// spoil writes over a list, its spare room too, and appends to it.
func spoil[T any](list []T, with T) {
	room := list[:cap(list)]
	for i := range room {
		room[i] = with
	}
	_ = append(list, with, with)
}

// TestAnswersOwnMemory: R5: answers written over and appended to change neither an argument nor another answer.
func TestAnswersOwnMemory(t *testing.T) {
	d := probe.Dice(36)
	for range 40 {
		const most = 5
		keys, whole := roomy(drawn(d.Below(25), func(int) int { return d.Below(most + 1) }), 1, 4, 0)
		before := slices.Clone(whole)
		items, all := roomy(itemsOf(keys), item{4, -1}, item{0, -2})
		allBefore := slices.Clone(all)
		ranks, kept := ranked(t, keys, most), ranked(t, keys, most)
		spoil(ranks, -7)
		list, code := bucket.Sort(items, keyOf, most)
		second, _ := bucket.Sort(items, keyOf, most)
		want := slices.Clone(second)
		spoil(list, item{-7, -7})
		if !slices.Equal(whole, before) || !slices.Equal(all, allBefore) || code != api.OK {
			t.Fatalf("R5: answers written over, and the arguments are %v, %v", whole, all)
		}
		if !slices.Equal(second, want) || !slices.Equal(kept, ranked(t, keys, most)) {
			t.Fatalf("R5: answers written over, and other answers are %v, %v", second, kept)
		}
		byDefinition(t, keys, most)
	}
}

// TestArgumentsNotKept: what the caller writes in the arguments later is not to be seen in answers.
func TestArgumentsNotKept(t *testing.T) {
	keys := []int{2, 0, 2, 1}
	items := itemsOf(keys)
	ranks, list, groups := ranked(t, keys, 2), sorted(t, keys, 2), grouped(t, keys, 2)
	again, _ := bucket.Sort(items, keyOf, 2)
	spoil(keys, 1)
	spoil(items, item{1, 1})
	want := []item{{0, 1}, {1, 3}, {2, 0}, {2, 2}}
	if !slices.Equal(ranks, []int{2, 0, 3, 1}) || !slices.Equal(list, want) || !slices.Equal(again, want) {
		t.Errorf("R5: the arguments written over, and the answers are %v, %v, %v", ranks, list, again)
	}
	if !slices.EqualFunc(groups, [][]int{{1}, {3}, {0, 2}}, slices.Equal[[]int]) {
		t.Errorf("R5: the arguments written over, and the groups are %v", groups)
	}
}

// TestGroupsApart: R5: each list of Group has memory of its own.
func TestGroupsApart(t *testing.T) {
	d := probe.Dice(46)
	for range 40 {
		const most = 6
		keys, whole := roomy(drawn(d.Below(20), func(int) int { return d.Below(most) }), 1, 1, 1)
		before := slices.Clone(whole)
		for spoiled := range most + 1 {
			groups, kept := grouped(t, keys, most), grouped(t, keys, most)
			spoil(groups[spoiled], -7)
			for k := range groups {
				if k != spoiled && !slices.Equal(groups[k], placesOf(keys, k)) {
					t.Fatalf("R5: the list of %d written over, and that of %d is %v", spoiled, k, groups[k])
				}
				if !slices.Equal(kept[k], placesOf(keys, k)) {
					t.Fatalf("R5: the list of %d written over, and another answer's of %d is %v", spoiled, k, kept[k])
				}
			}
		}
		spoil(grouped(t, keys, most), nil)
		if !slices.Equal(whole, before) {
			t.Fatalf("R5: groups written over, and the keys are %v", whole)
		}
		byDefinition(t, keys, most)
	}
}

// TestEarlierCalls: R8: what has been called before is not to be seen.
func TestEarlierCalls(t *testing.T) {
	first, second := []int{3, 0, 3, 1}, []int{1, 1, 0}
	for range 3 {
		byDefinition(t, first, 3)
		refused(t, []int{0, 1, 2, 3, 4, 9}, 3, api.ErrKey)
		byDefinition(t, second, 1)
		refused(t, first, -1, api.ErrRange)
		byDefinition(t, second, 9)
		byDefinition(t, nil, 2)
	}
	shared := []int{2, 0, 1}
	byDefinition(t, shared, 2)
	copy(shared, []int{0, 2, 0})
	byDefinition(t, shared, 2)
}

// TestSideBySide: R8: calls at the same time, of the same lists, keep out of each other's way.
func TestSideBySide(t *testing.T) {
	d := probe.Dice(56)
	keys := drawn(500, func(int) int { return d.Below(40) })
	want := slices.Clone(ranked(t, keys, 40))
	wrong := make([]bool, 8)
	var all sync.WaitGroup
	for worker := range wrong {
		all.Go(func() {
			for most := 40; most < 60; most++ {
				ranks, code := bucket.Ranks(keys, most)
				_, sort := bucket.Sort(keys, func(k int) int { return k }, most)
				_, group := bucket.Group(keys, most)
				if !slices.Equal(ranks, want) || code != api.OK || sort != api.OK || group != api.OK {
					wrong[worker] = true
				}
			}
		})
	}
	all.Wait()
	if slices.Contains(wrong, true) {
		t.Error("R8: calls side by side answer something else")
	}
}
