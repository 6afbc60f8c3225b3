package probe

import (
	"slices"

	"tangram/api"
)

// Known is a graph with whether it is planar, by what everybody knows.
type Known struct {
	Name   string
	Graph  api.Graph
	Planar bool
}

// KnownGraphs: bare ones, one of each family and size, and such as are put together.
func KnownGraphs() []Known { return slices.Concat(bare(), families(), composed()) }

func bare() []Known {
	return []Known{
		{"no vertices", OfEnds(0), true},
		{"one vertex", OfEnds(1), true},
		{"no edges", OfEnds(3), true},
		{"one edge", OfEnds(2, 0, 1), true},
		{"one edge among isolated vertices", OfEnds(9, 3, 7), true},
	}
}

func families() []Known {
	var all []Known
	for n := 1; n < 10; n++ {
		all = append(all, Known{"a path", Path(n), true}, Known{"a full graph", Complete(n), n < 5})
		for a := range n {
			all = append(all, Known{"a full two-part graph", TwoPart(a, n-a), min(a, n-a) < 3})
		}
		for middle := range n {
			if n > 1 {
				all = append(all, Known{"a star", Star(n, middle), true})
			}
		}
		for m := 1; m < 10; m++ {
			all = append(all, Known{"a grid", Grid(n, m), true}, Known{"a slanted grid", Slanted(n, m), true})
		}
	}
	for n := 3; n < 12; n++ {
		all = append(all, Known{"a cycle", Cycle(n), true}, Known{"a wheel", Wheel(n), true})
		all = append(all, Known{"a cycle with two hubs", Hubs(Cycle(n), 2), true}, Known{"a cycle with three hubs", Hubs(Cycle(n), 3), false})
		all = append(all, Known{"a path with two hubs", Hubs(Path(n), 2), true}, Known{"a path with three hubs", Hubs(Path(n), 3), false})
	}
	return all
}

// composed: several components, isolated vertices, bridges, cut vertices.
func composed() []Known {
	return []Known{
		{"triangles side by side", Beside(Cycle(3), Cycle(3)), true},
		{"many side by side", Beside(Complete(4), OfEnds(2), Cycle(5), Path(1), Star(6, 2), Path(4), OfEnds(1)), true},
		{"triangles with a bridge", OfEnds(6, 0, 1, 0, 2, 1, 2, 2, 3, 3, 4, 3, 5, 4, 5), true},
		{"triangles with a vertex in common", Hung(Cycle(3), 1, Cycle(3), 0), true},
		{"K4 hung on K4", Hung(Complete(4), 3, Complete(4), 2), true},
		{"the cube", OfEnds(8, 0, 1, 0, 3, 0, 4, 1, 2, 1, 5, 2, 3, 2, 6, 3, 7, 4, 5, 4, 7, 5, 6, 6, 7), true},
		{"eight vertices round, each joined to the one across", OfEnds(8, 0, 1, 0, 4, 0, 7, 1, 2, 1, 5, 2, 3, 2, 6, 3, 4, 3, 7, 4, 5, 5, 6, 6, 7), false},
		{"the octahedron", OfEnds(6, 0, 1, 0, 2, 0, 3, 0, 4, 1, 2, 1, 4, 1, 5, 2, 3, 2, 5, 3, 4, 3, 5, 4, 5), true},
		{"Petersen's graph", Petersen(), false},
	}
}
