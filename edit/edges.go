package edit

import (
	"cmp"
	"slices"

	"tangram/api"
)

// The edges that these take one by one may be a graph's own list, handed on as it is: they are read alone, and each answer is a new list.

// put: rising edges with more of them, which rise, too, and of which none is there. Merged, and not sorted: one edge more shall not cost more than a copy.
func put(edges []api.Edge, more ...api.Edge) []api.Edge {
	all := make([]api.Edge, 0, len(edges)+len(more))
	for _, e := range edges {
		for len(more) > 0 && compare(more[0], e) < 0 {
			all = append(all, more[0])
			more = more[1:]
		}
		all = append(all, e)
	}
	return append(all, more...)
}

// drop: edges without some of them, which stand in the same order.
func drop(edges []api.Edge, gone ...api.Edge) []api.Edge {
	rest := make([]api.Edge, 0, len(edges)-len(gone))
	for _, e := range edges {
		if len(gone) > 0 && gone[0] == e {
			gone = gone[1:]
			continue
		}
		rest = append(rest, e)
	}
	return rest
}

// choose: the edges whose places are marked.
func choose(marked []bool, edges ...api.Edge) []api.Edge {
	var chosen []api.Edge
	for i, e := range edges {
		if marked[i] {
			chosen = append(chosen, e)
		}
	}
	return chosen
}

// shift: the edges between vertices that have so much higher numbers.
func shift(by int, edges ...api.Edge) []api.Edge {
	shifted := make([]api.Edge, len(edges))
	for i, e := range edges {
		shifted[i] = api.Edge{U: by + e.U, V: by + e.V}
	}
	return shifted
}

// rename: the edges by the new names of their ends, rising; those with an end that has none are left out.
func rename(names []int, edges ...api.Edge) []api.Edge {
	var named []api.Edge
	for _, e := range edges {
		u, v := names[e.U], names[e.V]
		if u != none && v != none {
			named = append(named, api.Edge{U: min(u, v), V: max(u, v)})
		}
	}
	slices.SortFunc(named, compare)
	return named
}

// spokes: an edge from each of n vertices to vertex n.
func spokes(n int) []api.Edge {
	edges := make([]api.Edge, n)
	for v := range edges {
		edges[v] = api.Edge{U: v, V: n}
	}
	return edges
}

// compare: in the order of a graph's edges, by U, then by V.
func compare(a, b api.Edge) int {
	return cmp.Or(cmp.Compare(a.U, b.U), cmp.Compare(a.V, b.V))
}
