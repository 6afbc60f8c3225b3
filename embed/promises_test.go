package embed_test

import (
	"testing"

	"tangram/api"
	"tangram/embed"
	"tangram/probe"
)

// planarOnes: thrown planar graphs of all densities: whole, in parts, side by side, hung on each other, with vertices on their edges.
func planarOnes(d *probe.Dice) []api.Graph {
	var all []api.Graph
	for range 150 {
		n := 3 + d.Below(40)
		g := d.Triangles(n, d.Below(3*n))
		part := d.Part(g, d.Below(70))
		all = append(all, g, part, d.Renamed(probe.Beside(g, probe.With(d.Below(3)), part)))
		all = append(all, d.Renamed(probe.Hung(part, d.Below(n), g, d.Below(n))), d.Renamed(probe.DividedAll(part, 1+d.Below(2))))
	}
	for range 60 {
		rows, columns := 2+d.Below(7), 2+d.Below(7)
		all = append(all, d.Renamed(probe.Slanted(rows, columns)), d.Renamed(d.Part(probe.Grid(rows, columns), d.Below(30))))
	}
	return all
}

// TestPlanarOnes: P13.1, and P13.2 of the partition that the left-right test answers, and of it with all sides turned.
func TestPlanarOnes(t *testing.T) {
	d := probe.Dice(1305)
	for _, g := range planarOnes(&d) {
		embedded(t, "a thrown planar graph", g)
		p := partition(t, g)
		from(t, g, p)
		from(t, g, probe.SidesTurned(p))
	}
}

// TestOtherPartitions: P13.2: from one aligned left-right partition on to others by turning few sides, again and again; what isn't one any more is refused.
func TestOtherPartitions(t *testing.T) {
	d := probe.Dice(1306)
	var c tally
	for _, g := range planarOnes(&d) {
		f := walk(t, g)
		p := partition(t, g)
		for range 20 {
			q := d.FewSidesTurned(p)
			taken := agrees(t, g, f, q)
			if taken {
				p = q
			}
			c.add(taken)
		}
	}
	c.both(t, 3000)
}

// TestThrownSides: P13.2: each back edge on a side that is thrown.
func TestThrownSides(t *testing.T) {
	d := probe.Dice(1307)
	var c tally
	for range 4000 {
		n := 4 + d.Below(8)
		g := d.Part(d.Triangles(n, d.Below(2*n)), d.Below(70))
		f := walk(t, g)
		c.add(agrees(t, g, f, d.Partition(g, f)))
	}
	c.both(t, 500)
}

// TestOneEdgeTooMany: P13.1: no planar graph has more than 3 * N - 6 edges.
func TestOneEdgeTooMany(t *testing.T) {
	d := probe.Dice(1308)
	for range 100 {
		n := 5 + d.Below(40)
		g := d.Triangles(n, d.Below(3*n))
		embedded(t, "3 * N - 6 edges", g)
		for len(g.Edges) == 3*n-6 {
			g = probe.Plus(g, d.Pairs(n, 1)...)
		}
		notPlanar(t, "one edge more", g)
		notPlanar(t, "one edge more, vertices on all", d.Renamed(probe.DividedAll(g, 1)))
	}
}

// TestEdgesPutOn: P13.1: edges put on one by one: once the graph isn't planar, it stays so.
func TestEdgesPutOn(t *testing.T) {
	d := probe.Dice(1309)
	var c tally
	for range 40 {
		n := 5 + d.Below(9)
		g := api.Graph{N: n}
		planar := true
		for _, p := range probe.Mixed(&d, probe.Pairs(probe.Complete(n))) {
			g = probe.Plus(g, p)
			_, ok, _ := embed.Embed(g)
			if ok && !planar {
				t.Fatalf("P13.1: %v is planar, without the edge %v it isn't", g, p)
			}
			planar = ok
			isPlanar(t, "grown", g, planar)
			c.add(planar)
		}
	}
	c.both(t, 300)
}
