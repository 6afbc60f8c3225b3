package edit_test

import (
	"slices"
	"testing"

	"tangram/api"
	"tangram/probe"
)

// full: as many edges as may be; it has room for more edges between its vertices.
func full() api.Graph { return probe.Dense(api.MaxEdges) }

// free: ends of an edge that a graph of Dense doesn't have.
func free(g api.Graph) (u, v int) { return g.N - 2, g.N - 1 }

// TestMostEdges: with MaxEdges edges there is no room for one more, and with one less there is; what is wrong with the arguments is told ahead of that.
func TestMostEdges(t *testing.T) {
	g := full()
	u, v := free(g)
	big := fault(api.ErrBig)
	with(g, u, v).says(t, big)
	with(g, 0, 1).says(t, fault(api.ErrEdge))
	with(g, g.Edges[api.MaxEdges-1].U, g.Edges[api.MaxEdges-1].V).says(t, fault(api.ErrEdge))
	with(g, v, u).says(t, fault(api.ErrRange))
	with(g, 0, g.N).says(t, fault(api.ErrRange))
	divide(g, 0).says(t, big)
	divide(g, api.MaxEdges-1).says(t, big)
	divide(g, api.MaxEdges).says(t, fault(api.ErrRange))
	divide(g, -1).says(t, fault(api.ErrRange))
	apex(g).says(t, big)

	less := without(g, api.MaxEdges-1).gives(t)
	equal(t, "P14.1: Without of the last edge", less, probe.With(g.N, g.Edges[:api.MaxEdges-1]...))
	equal(t, "P14.2: With of it", with(less, g.Edges[api.MaxEdges-1].U, g.Edges[api.MaxEdges-1].V).gives(t), g)
	more := with(less, u, v).gives(t)
	equal(t, "P14.1: With of the last edge that may be", more, probe.With(g.N, slices.Concat(less.Edges, []api.Edge{{U: u, V: v}})...))
	divided := divide(less, 0).gives(t)
	if len(divided.Edges) != api.MaxEdges || divided.N != g.N+1 || divided.Edges[0] != (api.Edge{U: 0, V: 2}) || number(divided, 0, g.N) != g.N-2 {
		t.Fatalf("P14.1: Divide of a graph with one edge less than may be: %v", probe.Shown(divided))
	}
	divide(divided, 0).says(t, big)
}

// TestMostVertices: with MaxN vertices there is no room for one more, and with one less there is.
func TestMostVertices(t *testing.T) {
	big := fault(api.ErrBig)
	for _, n := range []int{api.MaxN, api.MaxN - 1} {
		for _, g := range []api.Graph{probe.With(n), probe.Path(n), probe.Star(n, n-1)} {
			m := len(g.Edges)
			divide(g, m).says(t, fault(api.ErrRange))
			if n == api.MaxN {
				apex(g).says(t, big)
				if m > 0 {
					divide(g, 0).says(t, big)
					divide(g, m-1).says(t, big)
				}
				continue
			}
			equal(t, "P14.1: Apex with room for one vertex", apex(g).gives(t), probe.Hubs(g, 1))
			if m > 0 {
				equal(t, "P14.1: Divide with room for one vertex", divide(g, m/2).gives(t), probe.Divided(g, m/2, 1))
			}
		}
	}
	last := api.MaxN - 1
	g := with(probe.With(api.MaxN), 0, last).gives(t)
	equal(t, "P14.1: With of the farthest ends", g, probe.OfEnds(api.MaxN, 0, last))
	with(g, last, api.MaxN).says(t, fault(api.ErrRange))
}

// TestApexAtTheLimit: edges and vertices together are MaxEdges, and one more.
func TestApexAtTheLimit(t *testing.T) {
	const n = 3000
	g := probe.Dense(api.MaxEdges - n)
	if g.N > n {
		t.Fatalf("%d vertices: another number is wanted here", g.N)
	}
	g.N = n // isolated vertices more
	top := apex(g).gives(t)
	if len(top.Edges) != api.MaxEdges || top.N != n+1 {
		t.Fatalf("P14.5: Apex: %v with %d edges", probe.Shown(top), len(top.Edges))
	}
	equal(t, "P14.5: Apex, induced to the old vertices", induced(top, probe.Rising(n)...).gives(t), g)
	apex(top).says(t, fault(api.ErrBig))
	g.N++
	apex(g).says(t, fault(api.ErrBig))
	more := with(probe.With(n, g.Edges...), n-2, n-1).gives(t)
	apex(more).says(t, fault(api.ErrBig))
}

// TestBesideAtTheLimits: so many vertices and so many edges as may be, and one more of either.
func TestBesideAtTheLimits(t *testing.T) {
	big := fault(api.ErrBig)
	beside(probe.With(0), probe.With(api.MaxN)).says(t, answer{g: probe.With(api.MaxN)})
	for _, n := range []int{1, 2, api.MaxN / 2, api.MaxN - 1, api.MaxN} {
		a, b := probe.With(n), probe.With(api.MaxN-n)
		beside(a, b).says(t, answer{g: probe.With(api.MaxN)})
		beside(a, probe.With(b.N+1)).says(t, big)
	}
	for _, n := range []int{2, api.MaxN / 2, api.MaxN - 2} {
		a, b := probe.Path(n), probe.Path(api.MaxN-n)
		equal(t, "P14.1: Beside of two paths", beside(a, b).gives(t), probe.Beside(a, b))
		beside(a, probe.Path(b.N+1)).says(t, big)
	}
	for _, m := range []int{1, 2, api.MaxEdges / 2, api.MaxEdges - 1} {
		a, b := probe.Dense(m), probe.Dense(api.MaxEdges-m)
		equal(t, "P14.1: Beside with as many edges as may be", beside(a, b).gives(t), probe.Beside(a, b))
		beside(a, probe.Dense(len(b.Edges)+1)).says(t, big)
	}
	beside(full(), probe.With(3)).says(t, answer{g: probe.Beside(full(), probe.With(3))})
	beside(full(), probe.OfEnds(2, 0, 1)).says(t, big)
	beside(probe.With(api.MaxN), probe.With(api.MaxN)).says(t, big)
	beside(full(), full()).says(t, big)
}

// TestGreatLists: graphs at the limits with lists as long as they are.
func TestGreatLists(t *testing.T) {
	d := probe.Dice(1412)
	for _, g := range probe.Great() {
		order, m := probe.Mixed(&d, probe.Rising(g.N)), len(g.Edges)
		backAgain(t, g, order)
		equal(t, "P14.1: Sub of all", sub(g, probe.Mixed(&d, probe.Rising(m))...).gives(t), g)
		sub(g, append(probe.Rising(m), m)...).says(t, fault(api.ErrRange))
		relabel(g, append(slices.Clone(order), 0)...).says(t, fault(api.ErrRange))
		relabel(g, order[1:]...).says(t, fault(api.ErrRange))
		induced(g, append(slices.Clone(order), order[0])...).says(t, fault(api.ErrRange))
		relabel(g, append(slices.Clone(order[1:]), order[1])...).says(t, fault(api.ErrRange))
		half := order[:g.N/2]
		equal(t, "P14.1: Induced of half of the vertices", induced(g, half...).gives(t), greatPart(g, half))
		part := bare(g).ask()
		equal(t, "P14.4: Induced to Bare's list", induced(g, part.list...).gives(t), part.g)
	}
}

// greatPart: Induced of a great graph, by sorting pairs.
func greatPart(g api.Graph, list []int) api.Graph {
	names := make([]int, g.N)
	for i, v := range list {
		names[v] = i + 1
	}
	var pairs [][2]int
	for _, e := range g.Edges {
		if names[e.U] > 0 && names[e.V] > 0 {
			pairs = append(pairs, [2]int{names[e.U] - 1, names[e.V] - 1})
		}
	}
	return probe.OfPairs(len(list), pairs)
}

// TestListsLongerThanTheGraph: Sub takes a number any number of times; Induced and Relabel refuse a list that is far too long.
func TestListsLongerThanTheGraph(t *testing.T) {
	long := make([]int, 1<<22+5)
	for i := range long {
		long[i] = i % 3
	}
	sub(example(), long...).says(t, answer{g: example()})
	long[len(long)-1] = 3
	sub(example(), long...).says(t, fault(api.ErrRange))
	induced(example(), long...).says(t, fault(api.ErrRange))
	relabel(example(), long...).says(t, fault(api.ErrRange))
}

// TestGreatBare: the first and the last vertex have an edge alone, and all but those.
func TestGreatBare(t *testing.T) {
	last := api.MaxN - 1
	bare(probe.OfEnds(api.MaxN, 0, last)).says(t, answer{g: probe.OfEnds(2, 0, 1), list: []int{0, last}})
	bare(probe.With(api.MaxN)).says(t, graph(0))
	within := probe.Beside(probe.With(1), probe.Cycle(api.MaxN-2), probe.With(1))
	bare(within).says(t, answer{g: probe.Cycle(api.MaxN - 2), list: probe.Rising(last)[1:]})
	bare(probe.Path(api.MaxN)).says(t, answer{g: probe.Path(api.MaxN), list: probe.Rising(api.MaxN)})
	bare(full()).says(t, answer{g: full(), list: probe.Rising(full().N)})
}
