package bucket_test

import (
	"fmt"
	"math"
	"slices"
	"testing"

	"tangram/api"
	"tangram/bucket"
	"tangram/probe"
)

// item: what is sorted in most tests: its place tells apart those of one key.
type item struct{ key, place int }

func keyOf(x item) int { return x.key }

func itemsOf(keys []int) []item {
	list := make([]item, len(keys))
	for i, k := range keys {
		list[i] = item{k, i}
	}
	return list
}

// codeOf: which error the chapter asks for.
func codeOf(keys []int, most int) api.Errno {
	if most < 0 || most > api.MaxKey {
		return api.ErrRange
	}
	for _, k := range keys {
		if k < 0 || k > most {
			return api.ErrKey
		}
	}
	return api.OK
}

// rankOf: by definition: how many keys are smaller, and how many equal ones stand ahead.
func rankOf(keys []int, i int) int {
	rank := 0
	for j, k := range keys {
		if k < keys[i] || k == keys[i] && j < i {
			rank++
		}
	}
	return rank
}

// placesOf: by definition: the places of a key, rising.
func placesOf(keys []int, key int) []int {
	var places []int
	for i, k := range keys {
		if k == key {
			places = append(places, i)
		}
	}
	return places
}

// shown: keys for a message; of many the first ones.
func shown(keys []int) string {
	if len(keys) <= 20 {
		return fmt.Sprint(keys)
	}
	return fmt.Sprintf("%v and %d more", keys[:20], len(keys)-20)
}

func ranked(t *testing.T, keys []int, most int) []int {
	t.Helper()
	ranks, code := bucket.Ranks(keys, most)
	if code != api.OK || len(ranks) != len(keys) {
		t.Fatalf("P6.2: Ranks(%s, %d): %d ranks, %d", shown(keys), most, len(ranks), code)
	}
	return ranks
}

func sorted(t *testing.T, keys []int, most int) []item {
	t.Helper()
	list, code := bucket.Sort(itemsOf(keys), keyOf, most)
	if code != api.OK || len(list) != len(keys) {
		t.Fatalf("P6.1: Sort by %s, %d: %d items, %d", shown(keys), most, len(list), code)
	}
	return list
}

func grouped(t *testing.T, keys []int, most int) [][]int {
	t.Helper()
	groups, code := bucket.Group(keys, most)
	if code != api.OK || len(groups) != most+1 {
		t.Fatalf("P6.3: Group(%s, %d): %d lists, %d", shown(keys), most, len(groups), code)
	}
	return groups
}

// together: the three calls tell of the same keys what P6.4 says.
func together(t *testing.T, keys []int, most int) {
	t.Helper()
	ranks, list, groups := ranked(t, keys, most), sorted(t, keys, most), grouped(t, keys, most)
	for i, k := range keys {
		if r := ranks[i]; r < 0 || r >= len(list) || list[r] != (item{k, i}) {
			t.Fatalf("P6.4: keys %s, most %d: item %d has the rank %d, and doesn't stand there", shown(keys), most, i, r)
		}
	}
	at := 0
	for k, places := range groups {
		for _, place := range places {
			if at == len(list) || list[at] != (item{k, place}) {
				t.Fatalf("P6.4: keys %s, most %d: Group tells place %d of key %d, Sort at %d another one", shown(keys), most, place, k, at)
			}
			at++
		}
	}
	if at != len(list) {
		t.Fatalf("P6.4: keys %s, most %d: %d places in groups", shown(keys), most, at)
	}
}

// byDefinition: keys without a fault are sorted, ranked and grouped as the slow answers say.
func byDefinition(t *testing.T, keys []int, most int) {
	t.Helper()
	list := sorted(t, keys, most)
	want := itemsOf(keys)
	slices.SortStableFunc(want, func(a, b item) int { return a.key - b.key })
	if !slices.Equal(list, want) {
		t.Fatalf("P6.1: Sort by %s, %d: %v, want %v", shown(keys), most, list, want)
	}
	for i, rank := range ranked(t, keys, most) {
		if rank != rankOf(keys, i) {
			t.Fatalf("P6.2: Ranks(%s, %d): %d at %d, want %d", shown(keys), most, rank, i, rankOf(keys, i))
		}
	}
	for k, places := range grouped(t, keys, most) {
		if !slices.Equal(places, placesOf(keys, k)) {
			t.Fatalf("P6.3: Group(%s, %d): %v of key %d, want %v", shown(keys), most, places, k, placesOf(keys, k))
		}
	}
	together(t, keys, most)
}

// refused: all three calls answer the code and nothing beside it.
func refused(t *testing.T, keys []int, most int, want api.Errno) {
	t.Helper()
	if list, code := bucket.Sort(itemsOf(keys), keyOf, most); len(list) != 0 || code != want {
		t.Fatalf("P6.1, R3: Sort by %s, %d: %v, %d, want the error %d", shown(keys), most, list, code, want)
	}
	if ranks, code := bucket.Ranks(keys, most); len(ranks) != 0 || code != want {
		t.Fatalf("P6.2, R3: Ranks(%s, %d): %v, %d, want the error %d", shown(keys), most, ranks, code, want)
	}
	if groups, code := bucket.Group(keys, most); len(groups) != 0 || code != want {
		t.Fatalf("P6.3, R3: Group(%s, %d): %d lists, %d, want the error %d", shown(keys), most, len(groups), code, want)
	}
}

// asTold holds all three calls against the slow answers, errors included.
func asTold(t *testing.T, keys []int, most int) {
	t.Helper()
	if code := codeOf(keys, most); code != api.OK {
		refused(t, keys, most, code)
		return
	}
	byDefinition(t, keys, most)
}

func TestExamples(t *testing.T) {
	texts := []string{"bb", "a", "cc", "d"}
	length := func(s string) int { return len(s) }
	if list, code := bucket.Sort(texts, length, 2); !slices.Equal(list, []string{"a", "d", "bb", "cc"}) || code != api.OK {
		t.Errorf("P6.1: Sort by lengths: %q, %d", list, code)
	}
	if list, code := bucket.Sort(texts, length, 1); len(list) != 0 || code != api.ErrKey {
		t.Errorf("P6.1: Sort by lengths up to 1: %q, %d", list, code)
	}
	for _, c := range []struct {
		keys  []int
		most  int
		ranks []int
		code  api.Errno
	}{
		{[]int{2, 0, 2, 1}, 2, []int{2, 0, 3, 1}, api.OK},
		{[]int{2, 0, 3}, 2, nil, api.ErrKey},
		{[]int{-1}, 5, nil, api.ErrKey},
		{nil, 0, nil, api.OK},
		{[]int{}, 0, nil, api.OK},
		{nil, -1, nil, api.ErrRange},
		{[]int{9}, 4194305, nil, api.ErrRange},
	} {
		if ranks, code := bucket.Ranks(c.keys, c.most); !slices.Equal(ranks, c.ranks) || code != c.code {
			t.Errorf("P6.2: Ranks(%v, %d): %v, %d", c.keys, c.most, ranks, code)
		}
	}
	groups, code := bucket.Group([]int{2, 0, 2}, 3)
	if !slices.EqualFunc(groups, [][]int{{1}, nil, {0, 2}, nil}, slices.Equal[[]int]) || code != api.OK {
		t.Errorf("P6.3: Group([2 0 2], 3): %v, %d", groups, code)
	}
}

// TestSmall: all short lists, with keys below and above what is allowed among them.
func TestSmall(t *testing.T) {
	for _, keys := range probe.Lists([]int{-1, 0, 1, 2, 3}, 4) {
		for most := -1; most <= 4; most++ {
			asTold(t, keys, most)
		}
	}
	for _, keys := range probe.Lists([]int{0, 1, 2}, 7) {
		asTold(t, keys, 2)
	}
}

// drawn: n keys that a rule says by place.
func drawn(n int, rule func(i int) int) []int {
	keys := make([]int, n)
	for i := range keys {
		keys[i] = rule(i)
	}
	return keys
}

func TestKinds(t *testing.T) {
	d := probe.Dice(6)
	for _, n := range []int{1, 2, 3, 10, 64, 300} {
		for name, rule := range map[string]func(i int) int{
			"one key for all":           func(i int) int { return 7 },
			"nought for all":            func(i int) int { return 0 },
			"rising":                    func(i int) int { return i },
			"falling":                   func(i int) int { return n - 1 - i },
			"with gaps":                 func(i int) int { return 1000 - 3*i },
			"far apart":                 func(i int) int { return i % 2 * 4000 },
			"few keys":                  func(i int) int { return i * i % 3 },
			"in another order":          func(i int) int { return i * 7 % 11 },
			"drawn, few":                func(int) int { return d.Below(4) },
			"drawn, as many as items":   func(int) int { return d.Below(n) },
			"drawn, more than items":    func(int) int { return d.Below(9*n + 1) },
			"one small among great":     func(i int) int { return 5 - 5*(i/(n-n/2)) },
			"the last one is the least": func(i int) int { return min(1, n-1-i) },
		} {
			keys := drawn(n, rule)
			greatest := slices.Max(keys)
			t.Run(fmt.Sprintf("%s of %d", name, n), func(t *testing.T) {
				for _, most := range []int{greatest, greatest + 1, greatest + 100} {
					byDefinition(t, keys, most)
				}
				if greatest > 0 {
					refused(t, keys, greatest-1, api.ErrKey)
				}
			})
		}
	}
}

func TestEdges(t *testing.T) {
	mosts := []int{math.MinInt64, math.MinInt64 + 1, -api.MaxKey, -2, -1, 0, 1, 2, api.MaxKey - 1, api.MaxKey, api.MaxKey + 1, 2 * api.MaxKey, math.MaxInt64 - 1, math.MaxInt64}
	for _, most := range mosts {
		lists := [][]int{nil, {}, {-1}, {0}, {most}, {most + 1}, {most - 1}, {math.MinInt64}, {math.MaxInt64}, {0, most}, {most, 0, most}, {0, most + 1}, {-1, most}, {most, -1}, {most, 0, most + 1}}
		for _, keys := range lists {
			if code := codeOf(keys, most); code != api.OK {
				refused(t, keys, most, code)
			} else {
				together(t, keys, most)
			}
		}
	}
}

// TestEdgesTold: the same edges with the answers written out.
func TestEdgesTold(t *testing.T) {
	for _, c := range []struct {
		keys []int
		most int
		code api.Errno
	}{
		{nil, -1, api.ErrRange},
		{nil, 0, api.OK},
		{nil, 4194304, api.OK},
		{nil, 4194305, api.ErrRange},
		{nil, math.MaxInt64, api.ErrRange},
		{nil, math.MinInt64, api.ErrRange},
		{[]int{0}, 0, api.OK},
		{[]int{1}, 0, api.ErrKey},
		{[]int{-1}, 0, api.ErrKey},
		{[]int{4194304}, 4194304, api.OK},
		{[]int{4194304}, 4194303, api.ErrKey},
		{[]int{4194305}, 4194304, api.ErrKey},
		{[]int{-1}, -1, api.ErrRange},
		{[]int{4194305}, 4194305, api.ErrRange},
		{[]int{math.MaxInt64}, math.MaxInt64, api.ErrRange},
		{[]int{math.MinInt64}, math.MinInt64, api.ErrRange},
		{[]int{-1, 4194305}, 4194305, api.ErrRange},
	} {
		if c.code != api.OK {
			refused(t, c.keys, c.most, c.code)
			continue
		}
		together(t, c.keys, c.most)
	}
}

// TestManyKeys: the greatest most, with each key once, and more items than there are keys.
func TestManyKeys(t *testing.T) {
	const most = api.MaxKey
	falling := drawn(most+1, func(i int) int { return most - i })
	for i, rank := range ranked(t, falling, most) {
		if rank != most-i {
			t.Fatalf("P6.2: falling keys: %d at %d", rank, i)
		}
	}
	for i, x := range sorted(t, falling, most) {
		if x != (item{i, most - i}) {
			t.Fatalf("P6.1: falling keys: %v at %d", x, i)
		}
	}
	for k, places := range grouped(t, falling, most) {
		if len(places) != 1 || places[0] != most-k {
			t.Fatalf("P6.3: falling keys: %v of %d", places, k)
		}
	}
	d := probe.Dice(66)
	together(t, drawn(most+2, func(int) int { return d.Below(most + 1) }), most)
	together(t, drawn(most+2, func(i int) int { return i % 3 }), 2)
	together(t, drawn(1<<20, func(i int) int { return most * (i & 1) }), most)
}

func TestNilKey(t *testing.T) {
	for _, most := range []int{-1, 0, 2, api.MaxKey, api.MaxKey + 1} {
		for _, items := range [][]int{nil, {}, {0}, {-1, 9}} {
			if list, code := bucket.Sort(items, nil, most); len(list) != 0 || code != api.ErrRange {
				t.Errorf("P6.1, R3: Sort(%v, nil, %d): %v, %d", items, most, list, code)
			}
		}
	}
}

// TestNilAndEmpty: R4: lists of nothing mean the same.
func TestNilAndEmpty(t *testing.T) {
	for _, most := range []int{0, 1, 5, api.MaxKey} {
		for _, keys := range [][]int{nil, {}, make([]int, 0, 4)} {
			if ranks, code := bucket.Ranks(keys, most); len(ranks) != 0 || code != api.OK {
				t.Errorf("P6.2, R4: Ranks of nothing, %d: %v, %d", most, ranks, code)
			}
			asked := 0
			list, code := bucket.Sort(keys, func(int) int { asked++; return 0 }, most)
			if len(list) != 0 || code != api.OK || asked != 0 {
				t.Errorf("P6.1, R4: Sort of nothing, %d: %v, %d, asked %d times", most, list, code, asked)
			}
			groups, code := bucket.Group(keys, most)
			if len(groups) != most+1 || code != api.OK {
				t.Errorf("P6.3, R4: Group of nothing, %d: %d lists, %d", most, len(groups), code)
			}
			for k, places := range groups {
				if len(places) != 0 {
					t.Errorf("P6.3: Group of nothing, %d: %v of %d", most, places, k)
				}
			}
		}
	}
}
