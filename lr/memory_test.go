package lr_test

import (
	"slices"
	"sync"
	"testing"

	"tangram/api"
	"tangram/lr"
	"tangram/probe"
)

// TestNilAndEmpty: R4: lists without elements may be nil or empty.
func TestNilAndEmpty(t *testing.T) {
	for _, n := range []int{0, 1, 5} {
		for _, edges := range [][]api.Edge{nil, {}, make([]api.Edge, 0, 4)} {
			g := api.Graph{N: n, Edges: edges}
			isPlanar(t, "R4: no edges", g, true)
			f := walked(t, g)
			for _, orient := range [][]int{nil, {}} {
				f.Orient = orient
				for _, p := range []api.Partition{nil, {}} {
					if !valid(t, g, f, p) {
						t.Errorf("R4: %v, %+v, %v", g, f, p)
					}
				}
			}
		}
	}
	empty := api.Forest{Parent: []int{}, Height: []int{}, Order: []int{}, Orient: []int{}}
	for _, f := range []api.Forest{{}, empty} {
		if !valid(t, probe.OfEnds(0), f, nil) {
			t.Errorf("R4: no vertices, %+v", f)
		}
	}
}

// thrown: planar graphs and others.
func thrown() []api.Graph {
	d := probe.Dice(119)
	graphs := []api.Graph{probe.Complete(4), probe.Complete(5), probe.TwoPart(3, 3), probe.Petersen(), probe.Wheel(5), probe.Path(4), probe.OfEnds(3)}
	for range 100 {
		n := 3 + d.Below(12)
		graphs = append(graphs, d.Triangles(n, n), d.Thin(n, d.Below(8)), d.Graph(n, d.Below(101)))
	}
	return graphs
}

// whole: a graph, a forest and a partition in lists with spare room, and these lists with their room.
type whole struct {
	g     api.Graph
	f     api.Forest
	p     api.Partition
	edges []api.Edge
	lists [5][]int
}

func roomy(g api.Graph, f api.Forest, p api.Partition) whole {
	x := whole{g: g, f: f}
	x.g.Edges, x.edges = probe.Roomy(g.Edges, api.Edge{U: 0, V: 1})
	x.f.Parent, x.lists[0] = probe.Roomy(f.Parent, 0)
	x.f.Height, x.lists[1] = probe.Roomy(f.Height, 1)
	x.f.Order, x.lists[2] = probe.Roomy(f.Order, 2)
	x.f.Orient, x.lists[3] = probe.Roomy(f.Orient, 3)
	sides, room := probe.Roomy([]int(p), 1)
	x.p, x.lists[4] = sides, room
	return x
}

func (x whole) same(y whole) bool {
	for i := range x.lists {
		if !slices.Equal(x.lists[i], y.lists[i]) {
			return false
		}
	}
	return slices.Equal(x.edges, y.edges)
}

// TestArgumentsUnchanged: R5, P10.5: with their spare room; of what is valid, of what isn't, and of what is refused.
func TestArgumentsUnchanged(t *testing.T) {
	d := probe.Dice(120)
	for round, g := range thrown() {
		f := d.Forest(g)
		p := d.Partition(g, f)
		switch round % 4 {
		case 1:
			f = walked(t, g)
			p, _ = test(t, g)
		case 2:
			f = d.Spoiled(g, f)
		case 3:
			p = append(p, 1)
			slices.Reverse(g.Edges)
		}
		x, before := roomy(g, f, p), roomy(g, f, p)
		lr.Test(x.g)
		lr.Planar(x.g)
		lr.Valid(x.g, x.f, x.p)
		if !x.same(before) {
			t.Fatalf("R5: P10.5: handed in was %+v, it is now %+v", before, x)
		}
	}
}

// TestPartitionsOwnMemory: R5, P10.5: the partition written over and appended to, with its spare room: the graph, another answer and the next ones are as they were.
func TestPartitionsOwnMemory(t *testing.T) {
	for _, g := range thrown() {
		x, before := roomy(g, api.Forest{}, nil), roomy(g, api.Forest{}, nil)
		first, ok := test(t, x.g)
		second, _ := test(t, x.g)
		want := slices.Clone(first)
		probe.Spoil(first, -7)
		again, okAgain := test(t, x.g)
		if !slices.Equal(second, want) || !slices.Equal(again, want) || ok != okAgain {
			t.Fatalf("R5: P10.5: %v: one partition written over, and the others are %v, %v, before %v", g, second, again, want)
		}
		if !x.same(before) {
			t.Fatalf("R5: P10.5: the partition written over, and the graph is %v, before %v", x.edges, before.edges)
		}
		if ok {
			isPlanar(t, "R5: P10.5: a partition written over", x.g, true)
		}
	}
}

// TestNothingIsKept: what the caller writes later in what it has handed in is not to be seen in the answers, and is seen by the next call.
func TestNothingIsKept(t *testing.T) {
	g := probe.Without(probe.Complete(5), 0)
	p, ok := test(t, g)
	want := slices.Clone(p)
	f := walked(t, g)
	if !ok || !valid(t, g, f, p) {
		t.Fatalf("P10.2: %v: %v, %v", g, p, ok)
	}
	g.N = 6
	copy(g.Edges, probe.TwoPart(3, 3).Edges) // nine edges, too
	if !slices.Equal(p, want) {
		t.Errorf("R5: P10.5: the graph written over, and the partition is %v, before %v", p, want)
	}
	isPlanar(t, "R8: written over by K3,3", g, false)
	if ok, code := lr.Valid(g, f, p); ok || code != api.ErrForest {
		t.Errorf("R8: the graph written over: Valid %v, %d", ok, code)
	}
	g.Edges[0] = api.Edge{U: 3, V: 0}
	refused(t, g)

	g = probe.Complete(4)
	f = walked(t, g)
	p = api.Partition{0, 1, 1, 0, 1, 0}
	for _, side := range []int{1, -1, 1} {
		p[2] = side
		if got := valid(t, g, f, p); got != (side == 1) {
			t.Errorf("R8: %v, written over: %v", p, got)
		}
	}
	p[2] = 0
	refusedPartition(t, g, f, p)
	f.Height[3]++
	if ok, code := lr.Valid(g, f, p); ok || code != api.ErrForest {
		t.Errorf("R8: a height changed later: Valid %v, %d", ok, code)
	}
}

// TestEarlierCalls: R8: the same graph, the same partition: whatever has been called before, and wherever its edges lie.
func TestEarlierCalls(t *testing.T) {
	graphs := thrown()
	before := make([]api.Partition, len(graphs))
	planarBefore := make([]bool, len(graphs))
	for i, g := range graphs {
		before[i], planarBefore[i] = test(t, g)
	}
	for i, g := range slices.Backward(graphs) {
		refused(t, probe.With(2, api.Edge{U: 1, V: 0}))
		refusedPartition(t, probe.OfEnds(2, 0, 1), walked(t, probe.OfEnds(2, 0, 1)), api.Partition{1})
		for range 2 {
			p, ok := test(t, roomy(g, api.Forest{}, nil).g)
			if !slices.Equal(p, before[i]) || ok != planarBefore[i] || planar(t, g) != ok {
				t.Fatalf("R8: Test(%v): %v, %v, before %v, %v", g, p, ok, before[i], planarBefore[i])
			}
		}
	}
}

// TestSideBySide: R8: calls at the same time, of the same graph, keep out of each other's way.
func TestSideBySide(t *testing.T) {
	graphs := thrown()
	before := make([]api.Partition, len(graphs))
	forests := make([]api.Forest, len(graphs))
	for i, g := range graphs {
		before[i], _ = test(t, g)
		forests[i] = walked(t, g)
	}
	wrong := make([]bool, 8)
	var all sync.WaitGroup
	for worker := range wrong {
		all.Go(func() {
			for i, g := range graphs {
				p, ok, code := lr.Test(g)
				yes, code2 := lr.Planar(g)
				if code != api.OK || code2 != api.OK || ok != yes || !slices.Equal(p, before[i]) {
					wrong[worker] = true
				}
				if holds, code := lr.Valid(g, forests[i], p); ok && (!holds || code != api.OK) {
					wrong[worker] = true
				}
			}
		})
	}
	all.Wait()
	if slices.Contains(wrong, true) {
		t.Error("R8: calls side by side answer something else")
	}
}
