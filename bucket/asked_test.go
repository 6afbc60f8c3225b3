package bucket_test

import (
	"math"
	"runtime"
	"slices"
	"testing"

	"tangram/api"
	"tangram/bucket"
	"tangram/probe"
)

// asking: a key that keeps a list of what it has been asked.
func asking(asked *[]item) func(item) int {
	return func(x item) int {
		*asked = append(*asked, x)
		return x.key
	}
}

// firstWrong: the place of the first key outside 0 to most; how many there are, if none is.
func firstWrong(keys []int, most int) int {
	for i, k := range keys {
		if k < 0 || k > most {
			return i
		}
	}
	return len(keys)
}

// asks: key is asked of the items from the first on, once each, up to and with the first whose key is wrong.
func asks(t *testing.T, keys []int, most int) {
	t.Helper()
	var asked []item
	items := itemsOf(keys)
	_, code := bucket.Sort(items, asking(&asked), most)
	want := items[:min(firstWrong(keys, most)+1, len(items))]
	if code == api.ErrRange {
		want = nil
	}
	if !slices.Equal(asked, want) || code != codeOf(keys, most) {
		t.Fatalf("P6.1, R9: Sort by %s, %d: %d, asked of %v, want %v", shown(keys), most, code, asked, want)
	}
}

func TestAsked(t *testing.T) {
	for _, keys := range probe.Lists([]int{-1, 0, 1, 2}, 5) {
		for most := -1; most <= 2; most++ {
			asks(t, keys, most)
		}
		asks(t, keys, api.MaxKey+1)
	}
}

// TestAskedUpToWrong: a wrong key at each place of a longer list, alone and with others behind it.
func TestAskedUpToWrong(t *testing.T) {
	const n, most = 41, 4
	for _, wrong := range []int{-1, most + 1, math.MinInt64, math.MaxInt64} {
		for at := range n {
			keys := drawn(n, func(i int) int { return i * 3 % (most + 1) })
			keys[at] = wrong
			asks(t, keys, most)
			refused(t, keys, most, api.ErrKey)
			for i := at + 1; i < n; i += 7 {
				keys[i] = -5
			}
			asks(t, keys, most)
		}
	}
}

// TestNotAskedLater: R9: key is asked during the call alone.
func TestNotAskedLater(t *testing.T) {
	var asked []item
	items := itemsOf([]int{2, 0, 2, 1})
	list, _ := bucket.Sort(items, asking(&asked), 2)
	list[0] = item{9, 9}
	items[0] = item{8, 8}
	bucket.Sort(items[1:], keyOf, 2)
	bucket.Ranks([]int{1, 0}, 1)
	bucket.Group([]int{1, 0}, 1)
	if len(asked) != 4 {
		t.Errorf("R9: asked of %v", asked)
	}
}

// caught: what a call panics with; nil: it doesn't.
func caught(call func()) (with any) {
	defer func() { with = recover() }()
	call()
	return nil
}

func TestKeyThatPanics(t *testing.T) {
	type reason struct{ place int }
	for at := range 5 {
		items := itemsOf([]int{3, 1, 4, 1, 2})
		var asked []item
		with := caught(func() {
			bucket.Sort(items, func(x item) int {
				asked = append(asked, x)
				if x.place == at {
					panic(reason{at})
				}
				return x.key
			}, 4)
		})
		if with != (reason{at}) || !slices.Equal(asked, items[:at+1]) {
			t.Errorf("P6.1: key panics at %d: the call panics with %v, asked of %v", at, with, asked)
		}
		if !slices.Equal(items, itemsOf([]int{3, 1, 4, 1, 2})) {
			t.Errorf("R5: key panics at %d, and the items are %v", at, items)
		}
		byDefinition(t, []int{3, 1, 4, 1, 2}, 4) // R8: that call has left nothing behind
	}
	wrongAhead := func() {
		bucket.Sort([]int{9, 0}, func(k int) int {
			if k == 0 {
				panic("asked behind a wrong key")
			}
			return k
		}, 4)
	}
	if with := caught(wrongAhead); with != nil {
		t.Errorf("P6.1: %v", with)
	}
	outOfRange := func() { bucket.Sort([]int{0}, func(int) int { panic("asked, and most is wrong") }, -1) }
	if with := caught(outOfRange); with != nil {
		t.Errorf("P6.1: %v", with)
	}
}

// TestKeyThatCalls: key may call the package itself.
func TestKeyThatCalls(t *testing.T) {
	items := [][]int{{2, 1, 0}, {0, 1}, {1, 0, 0}, {1, 1}}
	key := func(keys []int) int { // how many of its ranks are not their places
		ranks, _ := bucket.Ranks(keys, 2)
		count := 0
		for i, rank := range ranks {
			if i != rank {
				count++
			}
		}
		byDefinition(t, keys, 2)
		return count
	}
	list, code := bucket.Sort(items, key, 3)
	if !slices.EqualFunc(list, [][]int{{0, 1}, {1, 1}, {2, 1, 0}, {1, 0, 0}}, slices.Equal[[]int]) || code != api.OK {
		t.Errorf("P6.1: Sort with a key that sorts: %v, %d", list, code)
	}
}

// TestKeyThatWrites: a key that writes in the list that is being sorted changes nothing of what is sorted.
func TestKeyThatWrites(t *testing.T) {
	items := itemsOf([]int{2, 0, 1, 0})
	var asked []item
	list, code := bucket.Sort(items, func(x item) int {
		asked = append(asked, x)
		for i := range items {
			items[i] = item{1, -1}
		}
		return x.key
	}, 2)
	if !slices.Equal(asked, itemsOf([]int{2, 0, 1, 0})) {
		t.Errorf("P6.1: a key that writes in the list is asked of %v", asked)
	}
	if want := []item{{0, 1}, {0, 3}, {1, 2}, {2, 0}}; !slices.Equal(list, want) || code != api.OK {
		t.Errorf("P6.1: a key that writes in the list: %v, %d, want %v", list, code, want)
	}
}

// TestKeyOfItsOwnMind: what counts is what key says when it is asked, even if it says another number of the same item each time.
func TestKeyOfItsOwnMind(t *testing.T) {
	said := 5
	list, code := bucket.Sort([]string{"a", "a", "b", "a", "c"}, func(string) int { said--; return said }, 4)
	if !slices.Equal(list, []string{"c", "a", "b", "a", "a"}) || code != api.OK || said != 0 {
		t.Errorf("P6.1: Sort by keys that fall call by call: %q, %d", list, code)
	}
}

// laid: how many bytes a call lays.
func laid(call func()) uint64 {
	var ahead, behind runtime.MemStats
	runtime.ReadMemStats(&ahead)
	call()
	runtime.ReadMemStats(&behind)
	return behind.TotalAlloc - ahead.TotalAlloc
}

// TestNoMemoryAhead: a great most lays no memory by itself, and none for keys behind which a wrong one stands.
func TestNoMemoryAhead(t *testing.T) {
	const much = 1 << 20
	for name, call := range map[string]func(){
		"Ranks of nothing":      func() { bucket.Ranks(nil, api.MaxKey) },
		"Ranks of small keys":   func() { bucket.Ranks([]int{3, 1, 2}, api.MaxKey) },
		"Ranks of a wrong key":  func() { bucket.Ranks([]int{api.MaxKey, -1}, api.MaxKey) },
		"Sort of nothing":       func() { bucket.Sort(nil, keyOf, api.MaxKey) },
		"Sort by small keys":    func() { bucket.Sort([]item{{3, 0}, {1, 1}}, keyOf, api.MaxKey) },
		"Sort by a wrong key":   func() { bucket.Sort([]item{{api.MaxKey, 0}, {-1, 1}}, keyOf, api.MaxKey) },
		"Group of a wrong key":  func() { bucket.Group([]int{api.MaxKey, -1}, api.MaxKey) },
		"Group of a great most": func() { bucket.Group([]int{0}, api.MaxKey+1) },
	} {
		if bytes := laid(call); bytes >= much {
			t.Errorf("P6.4: %s lays %d bytes", name, bytes)
		}
	}
}
