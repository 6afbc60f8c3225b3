package rot_test

import (
	"math"
	"slices"
	"testing"

	"tangram/api"
	"tangram/probe"
	"tangram/rot"
)

// Canon, Mirror and Same are asked here of lists that needn't be a rotation of anything.

// slowCanon: the first turn that begins with an element than which none is less.
func slowCanon(list []int) []int {
	for at, x := range list {
		if !slices.ContainsFunc(list, func(y int) bool { return y < x }) {
			return probe.Turn(list, at)
		}
	}
	return list
}

func slowMirror(list []int) []int {
	var back []int
	for _, x := range list {
		back = append([]int{x}, back...)
	}
	return slowCanon(back)
}

// slowTurn: all turns of b are asked.
func slowTurn(a, b []int) bool {
	if len(a) == 0 && len(b) == 0 {
		return true
	}
	for at := range b {
		if slices.Equal(a, probe.Turn(b, at)) {
			return true
		}
	}
	return false
}

// turnsAgree: Canon and Mirror of lists are what the chapter says, list by list.
func turnsAgree(t *testing.T, lists api.Rotation) {
	t.Helper()
	var canon, mirror [][]int
	for _, list := range lists {
		canon, mirror = append(canon, slowCanon(list)), append(mirror, slowMirror(list))
	}
	if got := rot.Canon(lists); !probe.SameLists(got, canon) {
		t.Fatalf("P11.1: Canon(%v): %v, want %v", lists, got, canon)
	}
	if got := rot.Mirror(lists); !probe.SameLists(got, mirror) {
		t.Fatalf("P11.1: Mirror(%v): %v, want %v", lists, got, mirror)
	}
}

// sameAgrees: Same of one list each is what the chapter says; whether they are.
func sameAgrees(t *testing.T, a, b []int) bool {
	t.Helper()
	want := slowTurn(a, b)
	if got := rot.Same(api.Rotation{a}, api.Rotation{b}); got != want {
		t.Fatalf("P11.1: Same([%v], [%v]): %v", a, b, got)
	}
	return want
}

func TestTurnsByHand(t *testing.T) {
	for _, c := range []struct{ list, canon, mirror []int }{
		{nil, nil, nil},
		{[]int{7}, []int{7}, []int{7}},
		{[]int{-7}, []int{-7}, []int{-7}},
		{[]int{4, 4, 4}, []int{4, 4, 4}, []int{4, 4, 4}},
		{[]int{5, 3, 4, 3}, []int{3, 4, 3, 5}, []int{3, 4, 3, 5}},
		{[]int{3, 9, 3, 1, 2, 1, 8}, []int{1, 2, 1, 8, 3, 9, 3}, []int{1, 2, 1, 3, 9, 3, 8}},
		{[]int{1, 2, 3}, []int{1, 2, 3}, []int{1, 3, 2}},
		{[]int{2, 1, 5, 1}, []int{1, 5, 1, 2}, []int{1, 5, 1, 2}},
		{[]int{0, -1, 0, -2}, []int{-2, 0, -1, 0}, []int{-2, 0, -1, 0}},
		{[]int{1, 1, 2, 1, 3}, []int{1, 1, 2, 1, 3}, []int{1, 2, 1, 1, 3}},
		{[]int{math.MaxInt, math.MinInt, 0}, []int{math.MinInt, 0, math.MaxInt}, []int{math.MinInt, math.MaxInt, 0}},
	} {
		if got := rot.Canon(api.Rotation{c.list}); !probe.SameLists(got, [][]int{c.canon}) {
			t.Errorf("P11.1: Canon([%v]): %v, want %v", c.list, got, c.canon)
		}
		if got := rot.Mirror(api.Rotation{c.list}); !probe.SameLists(got, [][]int{c.mirror}) {
			t.Errorf("P11.1: Mirror([%v]): %v, want %v", c.list, got, c.mirror)
		}
	}
}

// TestTurnsOfAllLists: of few numbers, so that the least stand there once and several times.
func TestTurnsOfAllLists(t *testing.T) {
	for _, list := range probe.Lists([]int{-2, 0, 1, 5}, 7) {
		turnsAgree(t, api.Rotation{list})
	}
}

// TestTurnsOfManyLists: each list is turned by itself, wherever it stands; none and empty ones among them.
func TestTurnsOfManyLists(t *testing.T) {
	turnsAgree(t, nil)
	turnsAgree(t, api.Rotation{})
	turnsAgree(t, make(api.Rotation, 50))
	d := probe.Dice(1105)
	for range 3000 {
		turnsAgree(t, thrownLists(&d))
	}
}

// thrownLists: some lists, of few different numbers or of many.
func thrownLists(d *probe.Dice) [][]int {
	lists := make([][]int, d.Below(6))
	kinds := 1 + d.Below(30)
	for i := range lists {
		for range d.Below(9) {
			lists[i] = append(lists[i], d.Below(kinds)-kinds/3)
		}
	}
	return lists
}

// TestSameOfAllLists: each list with each, of other lengths, too; longer ones of two numbers, which come again and again.
func TestSameOfAllLists(t *testing.T) {
	yes := 0
	all := probe.Lists([]int{-1, 0, 7}, 5)
	for _, a := range all {
		for _, b := range all {
			if sameAgrees(t, a, b) {
				yes++
			}
		}
	}
	long := probe.Lists([]int{0, 1}, 9)
	for _, a := range long[len(long)-1<<9:] {
		for _, b := range long[len(long)-1<<9:] {
			if sameAgrees(t, a, b) {
				yes++
			}
		}
	}
	if yes < 5000 {
		t.Errorf("the test itself: %d are turns", yes)
	}
}

// TestSameOfTurns: long lists and all their turns, and with one number changed.
func TestSameOfTurns(t *testing.T) {
	d := probe.Dice(1106)
	for range 300 {
		kinds := 1 + d.Below(4)
		list := make([]int, 1+d.Below(40))
		for i := range list {
			list[i] = d.Below(kinds)
		}
		for at := range list {
			turn := probe.Turn(list, at)
			if !sameAgrees(t, list, turn) {
				t.Fatalf("the test itself: %v", list)
			}
			turn[d.Below(len(turn))] ^= 1
			sameAgrees(t, list, turn)
			sameAgrees(t, list, turn[1:])
		}
	}
}

// TestSameOfManyLists: as many lists, and each a turn of the one in the same place.
func TestSameOfManyLists(t *testing.T) {
	if !rot.Same(nil, nil) || !rot.Same(nil, api.Rotation{}) || !rot.Same(api.Rotation{}, nil) {
		t.Error("P11.1: R4: no lists aren't Same")
	}
	for _, c := range [][2]api.Rotation{{{}, {{}}}, {nil, {nil}}, {{{}}, {{}, {}}}, {{{1}}, {{1}, {}}}, {{{}, {1}}, {{1}}}, {{{1}, {2}}, {{2}, {1}}}, {{{1, 2}}, {{1}, {2}}}, {{{1}}, {{}}}, {{{1, 1}}, {{1}}}, {{{1, 1}}, {{1, 1, 1}}}, {{{0}}, {nil}}} {
		if rot.Same(c[0], c[1]) || rot.Same(c[1], c[0]) {
			t.Errorf("P11.1: Same(%v, %v)", c[0], c[1])
		}
	}
	d := probe.Dice(1107)
	for range 3000 {
		a := thrownLists(&d)
		b := d.Turned(a)
		if !rot.Same(a, b) || !rot.Same(b, a) || !rot.Same(a, rot.Canon(a)) {
			t.Fatalf("P11.1: Same(%v, %v): false", a, b)
		}
		more := append(probe.CopyLists(b), nil)
		if rot.Same(a, more) || rot.Same(more, a) {
			t.Fatalf("P11.1: Same(%v, %v): true", a, more)
		}
		for v, list := range b {
			c := probe.CopyLists(b)
			c[v] = append([]int{100}, list...)
			if rot.Same(a, c) || rot.Same(c, a) {
				t.Fatalf("P11.1: Same(%v, %v): true", a, c)
			}
		}
	}
}
