package low_test

import (
	"slices"
	"sync"
	"testing"

	"tangram/api"
	"tangram/low"
	"tangram/probe"
)

// TestNilAndEmpty: R4: lists without numbers may be nil or empty.
func TestNilAndEmpty(t *testing.T) {
	bare := api.Forest{Parent: []int{}, Height: []int{}, Order: []int{}, Orient: []int{}}
	for _, g := range []api.Graph{probe.With(0), {Edges: []api.Edge{}}} {
		for _, f := range []api.Forest{{}, bare} {
			if l := of(t, g, f); !isNothing(l) {
				t.Errorf("R4: no vertices: Of: %+v", l)
			}
			if list, code := low.Returns(g, f, 0); len(list) != 0 || code != api.ErrRange {
				t.Errorf("R4: no vertices: Returns: %v, %d", list, code)
			}
		}
	}
	for _, orient := range [][]int{nil, {}} {
		f := api.Forest{Parent: []int{-1, -1}, Height: []int{0, 0}, Order: []int{1, 0}, Orient: orient}
		for _, g := range []api.Graph{probe.With(2), {N: 2, Edges: []api.Edge{}}} {
			if l := of(t, g, f); !sameLow(l, api.Low{Out: [][]int{nil, nil}}) {
				t.Errorf("R4: no edges: Of: %+v", l)
			}
		}
	}
}

// wholes: the forest in lists with spare room, and those lists with their room.
func wholes(f api.Forest) (api.Forest, [4][]int) {
	var whole [4][]int
	f.Parent, whole[0] = probe.Roomy(f.Parent, 0)
	f.Height, whole[1] = probe.Roomy(f.Height, 1)
	f.Order, whole[2] = probe.Roomy(f.Order, 2)
	f.Orient, whole[3] = probe.Roomy(f.Orient, 3)
	return f, whole
}

func TestArgumentsUnchanged(t *testing.T) {
	d := probe.Dice(87)
	for round := range 300 {
		g := d.Graph(d.Below(12), d.Below(101))
		edges, whole := probe.Roomy(g.Edges, api.Edge{U: 0, V: 1})
		before := slices.Clone(whole)
		own := api.Graph{N: g.N, Edges: edges}
		f := d.Forest(g)
		if round%2 == 1 {
			f = d.Spoiled(g, f)
		}
		roomyForest, lists := wholes(f)
		low.Of(own, roomyForest)
		for e := -1; e <= len(g.Edges); e++ {
			low.Returns(own, roomyForest, e)
		}
		if !slices.Equal(whole, before) {
			t.Fatalf("R5: P8.5: the edges have been changed: %v, before %v", whole, before)
		}
		_, unchanged := wholes(f)
		for i := range lists {
			if !slices.Equal(lists[i], unchanged[i]) {
				t.Fatalf("R5: P8.5: the forest's list %d has been changed: %v, before %v", i, lists[i], unchanged[i])
			}
		}
	}
}

// listsOf: all lists of numbers in an answer.
func listsOf(l api.Low) [][]int { return append([][]int{l.Low, l.Low2, l.Nest}, l.Out...) }

// unchanged: all lists of an answer but one are as they should be.
func unchanged(t *testing.T, k known, lists [][]int, but int) {
	t.Helper()
	for j, want := range listsOf(k.want) {
		if j != but && !slices.Equal(lists[j], want) {
			t.Fatalf("R5: P8.5: %v: the list %d written over, and the list %d is %v, want %v", k.g, but, j, lists[j], want)
		}
	}
}

// TestAnswersOwnMemory: each list written over and appended to, with the others, other answers, the graph and the forest as they were.
func TestAnswersOwnMemory(t *testing.T) {
	d := probe.Dice(88)
	for range 200 {
		g := d.Graph(d.Below(12), d.Below(101))
		f := d.Forest(g)
		k := known{g: g, f: f, want: slowOf(g, f)}
		edges, forest := slices.Clone(g.Edges), probe.CopyForest(f)
		for i := range listsOf(k.want) {
			first, second := of(t, g, f), of(t, g, f)
			probe.Spoil(listsOf(first)[i], -7)
			unchanged(t, k, listsOf(first), i)
			unchanged(t, k, listsOf(second), -1)
		}
		first, second := of(t, g, f), of(t, g, f)
		for i := range first.Out[:cap(first.Out)] {
			first.Out[:cap(first.Out)][i] = []int{-7}
		}
		unchanged(t, k, listsOf(second), -1)
		for e := range g.Edges {
			list := returns(t, g, f, e)
			probe.Spoil(list, -7)
			if again := returns(t, g, f, e); !slices.Equal(again, probe.Returns(g, f, e)) {
				t.Fatalf("R5: P8.5: %v: Returns of %d written over, and again it is %v", g, e, again)
			}
		}
		if !slices.Equal(g.Edges, edges) || !probe.SameForest(f, forest) {
			t.Fatalf("R5: P8.5: the answers written over, and the graph is %v, the forest %+v", g, f)
		}
	}
}

// TestNothingIsKept: the same lists with other numbers are another graph, another forest; and answers stay as they were.
func TestNothingIsKept(t *testing.T) {
	g, f := probe.Cycle(4), walked(t, probe.Cycle(4))
	l, list := of(t, g, f), returns(t, g, f, 2)
	want := slowOf(g, f)
	f.Height[3]++
	refuses(t, g, f, api.ErrForest, "a height changed later")
	f.Height[3]--
	if again := of(t, g, f); !sameLow(again, want) {
		t.Errorf("R8: Of with the height as it was: %+v", again)
	}
	other := probe.With(4, api.Edge{U: 0, V: 1}, api.Edge{U: 0, V: 2}, api.Edge{U: 0, V: 3}, api.Edge{U: 1, V: 2})
	copy(g.Edges, other.Edges)
	refuses(t, g, f, api.ErrForest, "edges changed later")
	turned := walked(t, other)
	copy(f.Parent, turned.Parent)
	copy(f.Height, turned.Height)
	copy(f.Order, turned.Order)
	copy(f.Orient, turned.Orient)
	agrees(t, g, f)
	if !sameLow(l, want) || !slices.Equal(list, []int{1}) {
		t.Errorf("R5: P8.5: the graph and the forest written over, and the answers are %+v, %v", l, list)
	}
}

// TestEarlierCalls: R8: what has been called before is not to be seen, calls that went wrong among it.
func TestEarlierCalls(t *testing.T) {
	all := probe.Small()
	var before []api.Low
	for _, g := range all {
		before = append(before, of(t, g, walked(t, g)))
	}
	for i := len(all) - 1; i >= 0; i-- {
		refuses(t, probe.With(2, api.Edge{U: 1, V: 0}), api.Forest{}, api.ErrGraph, "in between")
		if l := of(t, all[i], walked(t, all[i])); !sameLow(l, before[i]) {
			t.Fatalf("R8: %v: Of again: %+v, before %+v", all[i], l, before[i])
		}
	}
}

// TestSideBySide: R8: calls at the same time, of the same graph and forest, keep out of each other's way.
func TestSideBySide(t *testing.T) {
	d := probe.Dice(89)
	g := d.Graph(60, 8)
	f := d.Forest(g)
	want := slowOf(g, f)
	wrong := make([]bool, 8)
	var all sync.WaitGroup
	for worker := range wrong {
		all.Go(func() {
			for e := range g.Edges {
				l, code := low.Of(g, f)
				list, code2 := low.Returns(g, f, e)
				if code != api.OK || code2 != api.OK || !sameLow(l, want) || !slices.Equal(list, probe.Returns(g, f, e)) {
					wrong[worker] = true
				}
			}
		})
	}
	all.Wait()
	if slices.Contains(wrong, true) {
		t.Error("R8: calls side by side answer something else")
	}
}
