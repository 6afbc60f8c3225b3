package embed_test

import (
	"runtime/debug"
	"testing"

	"tangram/api"
	"tangram/probe"
)

// shallow: on so small a stack calls that went as deep as a graph is long would end the program.
func shallow() func() {
	before := debug.SetMaxStack(1 << 20)
	return func() { debug.SetMaxStack(before) }
}

// TestGreatGraphs: those at the limits; all but the last, nearly a full graph, are planar.
func TestGreatGraphs(t *testing.T) {
	defer shallow()()
	for _, g := range probe.Great() {
		isPlanar(t, "a great graph", g, len(g.Edges) <= g.N)
	}
}

// TestGreatPlanarGraphs: as many vertices as may be, and nearly as many edges as they can have; and with one edge across.
func TestGreatPlanarGraphs(t *testing.T) {
	defer shallow()()
	g := probe.Slanted(1024, 1024)
	embedded(t, "the greatest grid", g)
	from(t, g, probe.SidesTurned(partition(t, g)))
	notPlanar(t, "the greatest grid, an edge across", probe.Plus(g, [2]int{300*1024 + 300, 700*1024 + 700}))
	embedded(t, "a path with two hubs", probe.Hubs(probe.Path(api.MaxN-2), 2))
	round := probe.Hubs(probe.Cycle(api.MaxN-2), 2)
	embedded(t, "a cycle with two hubs", round)
	notPlanar(t, "a cycle with two hubs that are joined", probe.Plus(round, [2]int{round.N - 2, round.N - 1}))
}

// TestGreatKuratowskiGraphs: their paths as long as may be; and without one edge.
func TestGreatKuratowskiGraphs(t *testing.T) {
	defer shallow()()
	for _, k := range kuratowski() {
		g := probe.DividedAll(k, (api.MaxN-k.N)/len(k.Edges))
		notPlanar(t, "Kuratowski's with long paths", g)
		embedded(t, "Kuratowski's with long paths, without an edge", probe.Without(g, len(g.Edges)/2))
	}
}

// TestGreatTriangles: a thrown graph, under thrown names; a part of it; and with a side turned.
func TestGreatTriangles(t *testing.T) {
	d := probe.Dice(1310)
	const n = 50_000
	g := d.Triangles(n, 2*n)
	defer shallow()()
	embedded(t, "many triangles", g)
	embedded(t, "a part of many triangles", d.Part(g, 30))
	f := walk(t, g)
	p := partition(t, g)
	var c tally
	for range 12 {
		c.add(agrees(t, g, f, d.FewSidesTurned(p)))
	}
	if c.no == 0 {
		t.Error("the test itself: no partition is refused")
	}
}

// TestGreatPartitions: of the longest cycle, its back edge on each side; with one side too few and too many.
func TestGreatPartitions(t *testing.T) {
	defer shallow()()
	g := probe.Cycle(api.MaxN)
	p := make(api.Partition, len(g.Edges))
	refused(t, g, p, api.ErrPartition)
	for _, side := range []int{1, -1} {
		p[1] = side
		from(t, g, p)
		refused(t, g, p[:len(p)-1], api.ErrPartition)
		refused(t, g, append(p, 0), api.ErrPartition)
	}
}
