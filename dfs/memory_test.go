package dfs_test

import (
	"slices"
	"sync"
	"testing"

	"tangram/api"
	"tangram/dfs"
	"tangram/probe"
)

// TestNilAndEmpty: R4: lists without numbers may be nil or empty.
func TestNilAndEmpty(t *testing.T) {
	bare := api.Forest{Parent: []int{}, Height: []int{}, Order: []int{}, Orient: []int{}}
	for _, g := range []api.Graph{probe.With(0), {Edges: []api.Edge{}}} {
		if !dfs.Valid(g, api.Forest{}) || !dfs.Valid(g, bare) || !probe.SameForest(walked(t, g), bare) {
			t.Errorf("R4: no vertices: Valid %v, %v", dfs.Valid(g, api.Forest{}), dfs.Valid(g, bare))
		}
		for _, f := range []api.Forest{{}, bare} {
			if dfs.Above(g, f, 0, 0) || dfs.Above(g, f, -1, -1) || dfs.Back(f, 0) || dfs.Back(f, -1) {
				t.Error("P7.2: no vertices: Above or Back is true")
			}
		}
	}
	for _, orient := range [][]int{nil, {}} {
		f := api.Forest{Parent: []int{-1, -1}, Height: []int{0, 0}, Order: []int{1, 0}, Orient: orient}
		for _, g := range []api.Graph{probe.With(2), {N: 2, Edges: []api.Edge{}}} {
			if !dfs.Valid(g, f) || !dfs.Above(g, f, 1, 1) || dfs.Above(g, f, 0, 1) || dfs.Above(g, f, 1, 0) || dfs.Back(f, 0) {
				t.Errorf("R4: no edges: Valid %v", dfs.Valid(g, f))
			}
		}
	}
}

// wholes: the forest in lists with spare room, and those lists with their room.
func wholes(f api.Forest) (api.Forest, [4][]int) {
	var whole [4][]int
	f.Parent, whole[0] = probe.Roomy(f.Parent, 0)
	f.Height, whole[1] = probe.Roomy(f.Height, 1)
	f.Order, whole[2] = probe.Roomy(f.Order, 2)
	f.Orient, whole[3] = probe.Roomy(f.Orient, 3)
	return f, whole
}

func TestArgumentsUnchanged(t *testing.T) {
	d := probe.Dice(78)
	for round := range 300 {
		g := d.Graph(d.Below(12), d.Below(101))
		edges, whole := probe.Roomy(g.Edges, api.Edge{U: 0, V: 1})
		before := slices.Clone(whole)
		own := api.Graph{N: g.N, Edges: edges}
		f := d.Forest(g)
		if round%2 == 1 {
			f = d.Spoiled(g, f)
		}
		roomyForest, lists := wholes(f)
		walked(t, own)
		dfs.Valid(own, roomyForest)
		for x := -1; x <= g.N; x++ {
			dfs.Back(roomyForest, x)
			dfs.Above(own, roomyForest, x, 0)
			dfs.Above(own, roomyForest, 0, x)
		}
		if !slices.Equal(whole, before) {
			t.Fatalf("R5: P7.4: the edges have been changed: %v, before %v", whole, before)
		}
		_, unchanged := wholes(f)
		for i := range lists {
			if !slices.Equal(lists[i], unchanged[i]) {
				t.Fatalf("R5: P7.4: the forest's list %d has been changed: %v, before %v", i, lists[i], unchanged[i])
			}
		}
	}
}

func listsOf(f api.Forest) [4][]int { return [4][]int{f.Parent, f.Height, f.Order, f.Orient} }

// TestAnswersOwnMemory: each list of the walk written over and appended to, with the others, other answers and the graph as they were.
func TestAnswersOwnMemory(t *testing.T) {
	for _, g := range probe.Small() {
		edges := slices.Clone(g.Edges)
		want := listsOf(slowWalk(g))
		for i := range 4 {
			first, second := walked(t, g), walked(t, g)
			probe.Spoil(listsOf(first)[i], -7)
			for j, list := range listsOf(first) {
				if j != i && !slices.Equal(list, want[j]) {
					t.Fatalf("R5: P7.4: %v: the list %d written over, and the list %d is %v, want %v", g, i, j, list, want[j])
				}
			}
			for j, list := range listsOf(second) {
				if !slices.Equal(list, want[j]) {
					t.Fatalf("R5: P7.4: %v: the list %d written over, and another answer's %d is %v, want %v", g, i, j, list, want[j])
				}
			}
			if !slices.Equal(g.Edges, edges) {
				t.Fatalf("R5: P7.4: the list %d written over, and the edges are %v, before %v", i, g.Edges, edges)
			}
		}
		if again := walked(t, g); !probe.SameForest(again, slowWalk(g)) {
			t.Fatalf("R8: %v: Walk again: %+v", g, again)
		}
	}
}

// TestGraphIsNotKept: what the caller writes in the graph later is not to be seen in the forest, and is seen by the next call.
func TestGraphIsNotKept(t *testing.T) {
	edges := []api.Edge{{U: 0, V: 1}, {U: 2, V: 3}}
	g := probe.With(4, edges...)
	f := walked(t, g)
	want := api.Forest{Parent: []int{-1, 0, -1, 2}, Height: []int{0, 1, 0, 1}, Order: []int{0, 1, 2, 3}, Orient: []int{0, 2}}
	g.Edges[0], g.Edges[1] = api.Edge{U: 1, V: 2}, api.Edge{U: 1, V: 3}
	if !probe.SameForest(f, want) {
		t.Errorf("R5: P7.4: the edges written over, and the forest is %+v", f)
	}
	if dfs.Valid(g, f) || dfs.Above(g, f, 0, 1) {
		t.Error("R8: the forest of the edges as they were is valid still")
	}
	if f := walked(t, g); !probe.SameForest(f, slowWalk(g)) {
		t.Errorf("R8: Walk of the edges written over: %+v", f)
	}
}

// TestForestIsNotKept: the same lists with other numbers are another forest.
func TestForestIsNotKept(t *testing.T) {
	g, f := example()
	for range 3 {
		f.Height[3]++
		if dfs.Valid(g, f) || dfs.Above(g, f, 0, 3) {
			t.Error("R8: valid with a wrong height")
		}
		f.Height[3]--
		if !dfs.Valid(g, f) || !dfs.Above(g, f, 0, 3) {
			t.Error("R8: not valid with the height as it was")
		}
		was := f.Orient[1]
		f.Orient[1] = 0
		if dfs.Back(f, 1) {
			t.Error("R8: Back of an edge that is a tree edge's now")
		}
		f.Orient[1] = was
		if !dfs.Back(f, 1) {
			t.Error("R8: Back of an edge that is a back edge again")
		}
	}
}

// TestEarlierCalls: R8: what has been called before is not to be seen, calls that went wrong among it.
func TestEarlierCalls(t *testing.T) {
	all := probe.Small()
	var forests []api.Forest
	for _, g := range all {
		forests = append(forests, walked(t, g))
	}
	wrong := probe.With(2, api.Edge{U: 1, V: 0})
	for i := len(all) - 1; i >= 0; i-- {
		if _, code := dfs.Walk(wrong); code != api.ErrGraph {
			t.Fatalf("R8: Walk(%v): %d", wrong, code)
		}
		if f := walked(t, all[i]); !probe.SameForest(f, forests[i]) || !dfs.Valid(all[i], f) {
			t.Fatalf("R8: %v: Walk again: %+v, before %+v", all[i], f, forests[i])
		}
	}
}

// TestSideBySide: R8: calls at the same time, of the same graph and forest, keep out of each other's way.
func TestSideBySide(t *testing.T) {
	d := probe.Dice(79)
	g := d.Graph(200, 5)
	want, f := slowWalk(g), d.Forest(g)
	wrong := make([]bool, 8)
	var all sync.WaitGroup
	for worker := range wrong {
		all.Go(func() {
			for range 20 {
				got, code := dfs.Walk(g)
				if code != api.OK || !probe.SameForest(got, want) || !dfs.Valid(g, f) || !dfs.Above(g, f, f.Order[0], f.Order[0]) {
					wrong[worker] = true
				}
			}
		})
	}
	all.Wait()
	if slices.Contains(wrong, true) {
		t.Error("R8: calls side by side answer something else")
	}
}
