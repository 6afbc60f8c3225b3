package simple

import (
	"cmp"

	"tangram/api"
)

// edgeSet has edges as its keys.
type edgeSet map[api.Edge]struct{}

// within: are all numbers of the pairs vertices?
func within(n int, pairs [][2]int) bool {
	for _, p := range pairs {
		if min(p[0], p[1]) < 0 || max(p[0], p[1]) >= n {
			return false
		}
	}
	return true
}

// gather: the edges that the pairs say; no more are sought once there are too many.
func gather(pairs [][2]int) edgeSet {
	kept := edgeSet{}
	for _, p := range pairs {
		if p[0] != p[1] {
			kept[edge(p)] = struct{}{}
		}
		if len(kept) > api.MaxEdges {
			break
		}
	}
	return kept
}

// take moves the edges out of the set into a list. It goes by the pairs, so that the list doesn't hang on the order in which a map is gone through; what was moved is deleted, so that of doubles one is moved alone.
func take(kept edgeSet, pairs [][2]int) []api.Edge {
	list := make([]api.Edge, 0, len(kept))
	for _, p := range pairs {
		e := edge(p)
		if _, there := kept[e]; there {
			delete(kept, e)
			list = append(list, e)
		}
	}
	return list
}

func edge(p [2]int) api.Edge {
	return api.Edge{U: min(p[0], p[1]), V: max(p[0], p[1])}
}

// compare: in the order of a graph's edges, by U, then by V.
func compare(a, b api.Edge) int {
	return cmp.Or(cmp.Compare(a.U, b.U), cmp.Compare(a.V, b.V))
}
