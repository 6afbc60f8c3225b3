package kura_test

import (
	"slices"
	"testing"

	"tangram/api"
	"tangram/probe"
)

func TestGreatGraphs(t *testing.T) {
	for _, g := range probe.Great() {
		covers(t, g)
		refuses(t, "a graph at the limits", g)
	}
}

// TestGreatChains: one chain of all vertices, open and free, rising and mixed.
func TestGreatChains(t *testing.T) {
	all := probe.Rising(api.MaxN)
	chained(t, probe.Path(api.MaxN), all)
	chained(t, probe.Cycle(api.MaxN), append(slices.Clone(all), 0))
	d := probe.Dice(1507)
	covers(t, d.Renamed(probe.Path(api.MaxN)))
	covers(t, d.Renamed(probe.Cycle(api.MaxN)))
	covers(t, d.Renamed(probe.Hung(probe.Cycle(api.MaxN-1), 0, probe.Path(2), 0)))
}

// TestGreatSubdivisions: as many vertices as there may be, on one path or on all, and isolated ones.
func TestGreatSubdivisions(t *testing.T) {
	d := probe.Dice(1508)
	for _, kind := range []api.KuraKind{api.K5, api.K33} {
		base := k5()
		if kind == api.K33 {
			base = k33()
		}
		long := probe.Divided(base, len(base.Edges)-1, api.MaxN-base.N)
		k, is := slowKura(base)
		if !is {
			t.Fatal("K5 and K3,3 are subdivisions of themselves")
		}
		last := len(k.Paths) - 1
		k.Paths[last] = slices.Concat(k.Paths[last][:1], probe.Rising(api.MaxN)[base.N:], k.Paths[last][1:])
		recognises(t, long, k)
		refuses(t, "an edge less", probe.Without(long, len(long.Edges)/2))
		if !ask(d.Renamed(long)).is {
			t.Fatal("P15.3: false with other names")
		}
		x := made(&d, kind, 60000)
		recognises(t, x.graph, x.told())
		x.graph.N = api.MaxN
		recognises(t, x.graph, x.told())
	}
}

// TestGreatLookAlikes: free cycles beside a subdivision, one that takes all vertices and as many as there may be.
func TestGreatLookAlikes(t *testing.T) {
	for _, base := range []api.Graph{k5(), k33()} {
		long := probe.Beside(base, probe.Cycle(api.MaxN-base.N))
		covers(t, long)
		refuses(t, "a free cycle beside", long)
		parts := []api.Graph{base}
		for range (api.MaxN - base.N) / 3 {
			parts = append(parts, probe.Cycle(3))
		}
		many := probe.Beside(parts...)
		covers(t, many)
		refuses(t, "free cycles beside", many)
		var same []api.Graph
		for range 1000 {
			same = append(same, base)
		}
		refuses(t, "a thousand side by side", probe.Beside(same...))
	}
}
