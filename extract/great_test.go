package extract_test

import (
	"testing"

	"tangram/api"
	"tangram/probe"
)

// TestGreatGraphs: those at the limits; all are planar but the one with as many edges as may be.
func TestGreatGraphs(t *testing.T) {
	for _, g := range probe.Great() {
		if len(g.Edges) < api.MaxEdges {
			refuses(t, g, api.ErrPlanar)
			continue
		}
		rightly(t, g)
		smallest(t, g)
	}
}

// TestFarVertices: of as many vertices as may be few have edges.
func TestFarVertices(t *testing.T) {
	const n = api.MaxN
	for _, base := range []api.Graph{k5(), k33()} {
		m := len(base.Edges)
		leaves(t, probe.Beside(base, probe.With(n-base.N)), fromTo(0, m)...)
		leaves(t, probe.Beside(probe.With(n-base.N), base), fromTo(0, m)...)
		names := []int{0, 1, n / 2, n - 3, n - 2, n - 1}[:base.N]
		wide := probe.With(n)
		for _, e := range base.Edges {
			wide.Edges = append(wide.Edges, api.Edge{U: names[e.U], V: names[e.V]})
		}
		leaves(t, wide, fromTo(0, m)...)
		refuses(t, probe.Without(wide, m-1), api.ErrPlanar)
	}
}

// TestGreatRuns: far more edges go than stay.
func TestGreatRuns(t *testing.T) {
	path := probe.Path(api.MaxN - 5)
	n := len(path.Edges)
	leaves(t, probe.Beside(path, k5()), fromTo(n, n+10)...)
	refuses(t, probe.Beside(path, probe.Without(k5(), 9)), api.ErrPlanar)
	leaves(t, probe.Beside(k33(), probe.Star(20000, 7)), fromTo(0, 9)...)
	d := probe.Dice(1611)
	for _, g := range []api.Graph{
		probe.Complete(1000), probe.TwoPart(3, 5000), probe.TwoPart(5000, 3), d.Graph(1000, 20),
		probe.Hubs(probe.Cycle(1000), 3), probe.Hubs(probe.Path(1000), 3),
	} {
		rightly(t, g)
		smallest(t, g)
	}
}

// TestLongPaths: far more edges stay than go.
func TestLongPaths(t *testing.T) {
	d := probe.Dice(1612)
	for _, base := range []api.Graph{k5(), k33()} {
		long := d.Renamed(probe.DividedAll(base, 40))
		leaves(t, long, probe.Rising(len(long.Edges))...)
		m := len(long.Edges)
		list := rightly(t, d.Renamed(probe.Hung(long, 3, probe.Path(30), 11)))
		if len(list) != m {
			t.Fatalf("P16.1: %d edges, want the %d of the one part that isn't planar", len(list), m)
		}
	}
	g := probe.Plus(probe.Slanted(20, 20), [2]int{5*20 + 5, 14*20 + 14})
	rightly(t, g)
	smallest(t, g)
	g = d.Renamed(probe.Plus(probe.Grid(25, 25), [2]int{5*25 + 5, 19*25 + 19}))
	rightly(t, g)
	smallest(t, g)
}
