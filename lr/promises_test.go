package lr_test

import (
	"slices"
	"testing"

	"tangram/api"
	"tangram/blocks"
	"tangram/probe"
)

// many: graphs of few and many edges, planar ones and others, nearly planar ones among both.
func many() []api.Graph {
	d := probe.Dice(110)
	graphs := probe.Small()
	for range 300 {
		n := 5 + d.Below(40)
		graphs = append(graphs, d.Thin(n, d.Below(20)))
		g := d.Part(d.Triangles(n, d.Below(3*n)), d.Below(50))
		graphs = append(graphs, g, probe.Plus(g, d.Pairs(n, 1+d.Below(3))...))
	}
	return graphs
}

func TestBothAreMet(t *testing.T) {
	var c tally
	for _, g := range many() {
		c.add(planar(t, g))
	}
	c.both(t, 300)
}

// TestAllSidesTurned: P10.3, of what is valid and of what isn't, of the walk and of other forests.
func TestAllSidesTurned(t *testing.T) {
	d := probe.Dice(111)
	var c tally
	for _, g := range many() {
		f := walked(t, g)
		if p, ok := test(t, g); ok {
			if !valid(t, g, f, probe.SidesTurned(p)) {
				t.Fatalf("P10.3: %v: %v is valid, all sides turned it isn't", g, p)
			}
			few := d.FewSidesTurned(p)
			c.add(turnedAgrees(t, g, f, few))
		}
		f = d.Forest(g)
		c.add(turnedAgrees(t, g, f, d.Partition(g, f)))
	}
	c.both(t, 300)
}

func turnedAgrees(t *testing.T, g api.Graph, f api.Forest, p api.Partition) bool {
	t.Helper()
	ok := valid(t, g, f, p)
	if valid(t, g, f, probe.SidesTurned(p)) != ok {
		t.Fatalf("P10.3: %v: %v: %v, all sides turned %v", g, p, ok, !ok)
	}
	return ok
}

// TestOtherNames: P10.4.
func TestOtherNames(t *testing.T) {
	d := probe.Dice(112)
	for _, g := range many() {
		want := planar(t, g)
		for range 3 {
			isPlanar(t, "P10.4: other names", d.Renamed(g), want)
		}
	}
	for _, g := range []api.Graph{probe.Complete(5), probe.TwoPart(3, 3), probe.Without(probe.Complete(5), 3)} {
		want := planar(t, g)
		for _, names := range probe.Arranged(probe.Rising(g.N)) {
			isPlanar(t, "P10.4: all names", probe.Renamed(g, names), want)
		}
	}
}

// TestParts: P10.4: without some edges, without any one of them, without those of a vertex.
func TestParts(t *testing.T) {
	d := probe.Dice(113)
	for _, g := range many() {
		if !planar(t, g) {
			continue
		}
		for range 3 {
			isPlanar(t, "P10.4: a part", d.Part(g, d.Below(60)), true)
		}
		for e := range g.Edges {
			if !planar(t, probe.Without(g, e)) {
				t.Fatalf("P10.4: %v is planar, without the edge %d it isn't", g, e)
			}
		}
		if g.N > 0 {
			v := d.Below(g.N)
			rest := slices.DeleteFunc(slices.Clone(g.Edges), func(e api.Edge) bool { return e.U == v || e.V == v })
			isPlanar(t, "P10.4: without the edges of a vertex", api.Graph{N: g.N, Edges: rest}, true)
		}
	}
}

// TestMorePutOn: P10.4: what has a part that isn't planar isn't.
func TestMorePutOn(t *testing.T) {
	d := probe.Dice(114)
	for _, g := range many() {
		if !planar(t, g) {
			isPlanar(t, "P10.4: more edges", probe.Plus(g, d.Pairs(g.N, 1+d.Below(6))...), false)
		}
	}
}

// TestBlocks: P10.4.
func TestBlocks(t *testing.T) {
	d := probe.Dice(115)
	graphs := many()
	for range 200 {
		a, b := graphs[d.Below(len(graphs))], graphs[d.Below(len(graphs))]
		if a.N > 0 && b.N > 0 {
			graphs = append(graphs, d.Renamed(probe.Hung(a, d.Below(a.N), b, d.Below(b.N))))
		}
	}
	for _, g := range graphs {
		_, count, _ := blocks.Of(g)
		want := true
		for k := range count {
			block, _, _ := blocks.Block(g, k)
			want = want && planar(t, block)
		}
		isPlanar(t, "P10.4: by its blocks", g, want)
	}
}

// TestOneVertexMore: P10.4: on any edge, one or more.
func TestOneVertexMore(t *testing.T) {
	d := probe.Dice(116)
	for _, g := range many() {
		if len(g.Edges) == 0 {
			continue
		}
		want := planar(t, g)
		for range 3 {
			isPlanar(t, "P10.4: one vertex more on an edge", probe.Divided(g, d.Below(len(g.Edges)), 1), want)
		}
		isPlanar(t, "P10.4: vertices on an edge", d.Renamed(probe.Divided(g, d.Below(len(g.Edges)), 1+d.Below(5))), want)
		isPlanar(t, "P10.4: vertices on all edges", d.Renamed(probe.DividedAll(g, 1+d.Below(2))), want)
	}
}

// TestFewEdges: P10.4: at most 3 * N - 6.
func TestFewEdges(t *testing.T) {
	d := probe.Dice(117)
	for _, g := range many() {
		if g.N >= 3 && len(g.Edges) > 3*g.N-6 && planar(t, g) {
			t.Fatalf("P10.4: %v is planar", g)
		}
	}
	for range 100 {
		n := 5 + d.Below(30)
		g := d.Triangles(n, d.Below(3*n))
		isPlanar(t, "P10.4: 3 * N - 6 edges", g, true)
		for len(g.Edges) == 3*n-6 {
			g = probe.Plus(g, d.Pairs(n, 1)...)
		}
		isPlanar(t, "P10.4: one more", g, false)
	}
}

// TestGrownTillFull: edges put on as long as the graph stays planar, till none can be any more: it has 3 * N - 6 then. So no answer on the way was a false that should have been true.
func TestGrownTillFull(t *testing.T) {
	d := probe.Dice(118)
	for n := 3; n < 16; n++ {
		for range 4 {
			g := api.Graph{N: n}
			for _, p := range probe.Mixed(&d, probe.Pairs(probe.Complete(n))) {
				if more := probe.Plus(g, p); planar(t, more) {
					g = more
				}
			}
			if len(g.Edges) != 3*n-6 {
				t.Fatalf("P10.4: %v can't be put an edge on, and has only %d", g, len(g.Edges))
			}
			answeredIsRight(t, slowly(g, walked(t, g)), true)
		}
	}
}
