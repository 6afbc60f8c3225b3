package lr_test

import (
	"runtime/debug"
	"slices"
	"testing"

	"tangram/api"
	"tangram/probe"
)

// shallow: on so small a stack calls that went as deep as a graph is long would end the program.
func shallow() func() {
	before := debug.SetMaxStack(1 << 20)
	return func() { debug.SetMaxStack(before) }
}

// TestGreatWithoutConflict: the longest path and cycle, the greatest stars, no edges at all.
func TestGreatWithoutConflict(t *testing.T) {
	defer shallow()()
	const n = api.MaxN
	for _, g := range []api.Graph{probe.OfEnds(n), probe.Path(n), probe.Star(n, 0), probe.Star(n, n/2), probe.Star(n, n-1)} {
		if p, ok := test(t, g); !ok || !slices.Equal(p, make(api.Partition, len(g.Edges))) {
			t.Errorf("P10.2: Test(%v): %v, %d sides", probe.Shown(g), ok, len(p))
		}
		isPlanar(t, "the greatest", g, true)
	}
	g := probe.Cycle(n)
	isPlanar(t, "the longest cycle", g, true)
	p := make(api.Partition, n)
	for _, side := range []int{1, -1} {
		p[1] = side
		if !valid(t, g, walked(t, g), p) {
			t.Errorf("P10.1: Valid of the longest cycle, its back edge on the side %d", side)
		}
	}
}

// TestGreatPlanarGraphs: with as many vertices as may be, and nearly as many edges as they can have.
func TestGreatPlanarGraphs(t *testing.T) {
	defer shallow()()
	g := probe.Slanted(1024, 1024)
	isPlanar(t, "the greatest grid", g, true)
	isPlanar(t, "the greatest grid, an edge across", probe.Plus(g, [2]int{300*1024 + 300, 700*1024 + 700}), false)
	fan := probe.Hubs(probe.Path(api.MaxN-2), 2)
	isPlanar(t, "a path with two hubs", fan, true)
	isPlanar(t, "a path with two hubs that are joined", probe.Plus(fan, [2]int{fan.N - 2, fan.N - 1}), true)
	round := probe.Hubs(probe.Cycle(api.MaxN-2), 2)
	isPlanar(t, "a cycle with two hubs", round, true)
	isPlanar(t, "a cycle with two hubs that are joined", probe.Plus(round, [2]int{round.N - 2, round.N - 1}), false)
}

// TestGreatKuratowskiGraphs: their paths as long as may be; and without one edge.
func TestGreatKuratowskiGraphs(t *testing.T) {
	defer shallow()()
	for _, c := range kuratowski() {
		g := probe.DividedAll(c.g, (api.MaxN-c.g.N)/len(c.g.Edges))
		isPlanar(t, c.name+" with long paths", g, false)
		isPlanar(t, c.name+" with long paths, without an edge", probe.Without(g, len(g.Edges)/2), c.want)
	}
}

// TestGreatTriangles: a thrown graph, under thrown names; a part of it; and with one edge more.
func TestGreatTriangles(t *testing.T) {
	d := probe.Dice(121)
	const n = 50_000
	g := d.Triangles(n, 2*n)
	defer shallow()()
	isPlanar(t, "many triangles", g, true)
	part := d.Part(g, 30)
	isPlanar(t, "a part of many triangles", part, true)
	for len(g.Edges) == 3*n-6 {
		g = probe.Plus(g, d.Pairs(n, 1)...)
	}
	isPlanar(t, "many triangles and one edge more", g, false)
}

// TestGreatInvalidPartition: in a cycle with two hubs, as great as may be, one side turned.
func TestGreatInvalidPartition(t *testing.T) {
	defer shallow()()
	g := probe.Hubs(probe.Cycle(api.MaxN/4), 2)
	f := walked(t, g)
	p, _ := test(t, g)
	wrong := 0
	for e := len(p) / 2; e < len(p)/2+8; e++ {
		q := slices.Clone(p)
		q[e] *= -1
		if !valid(t, g, f, q) {
			wrong++
		}
	}
	if wrong < 2 {
		t.Errorf("P10.1: %d of 8 sides turned are found", wrong)
	}
}

// TestMostEdges: nearly a full graph.
func TestMostEdges(t *testing.T) {
	g := probe.Dense(api.MaxEdges)
	isPlanar(t, "as many edges as may be", g, false)
	f := walked(t, g)
	p := make(api.Partition, len(g.Edges))
	for e := range p {
		if !probe.IsTree(g, f, e) {
			p[e] = 1
		}
	}
	if valid(t, g, f, p) {
		t.Error("P10.1: Valid of nearly a full graph, all on one side")
	}
}
