package rot

import (
	"slices"

	"tangram/api"
)

// none: a half-edge that isn't there.
const none = -1

// beginsAt and leadsTo: of a half-edge of the graph. (simple.Ends would look through the whole graph each time.)
func beginsAt(g api.Graph, h int) int { return leadsTo(g, h^1) }

func leadsTo(g api.Graph, h int) int {
	if h%2 == 0 {
		return g.Edges[h/2].V
	}
	return g.Edges[h/2].U
}

// leaves: is h a half-edge, and does it leave v?
func leaves(g api.Graph, h, v int) bool {
	return h >= 0 && h < 2*len(g.Edges) && beginsAt(g, h) == v
}

// finder tells half-edges by the vertices to which they lead, for one vertex after the other. (simple.Find would look through the whole graph each time.)
type finder struct {
	graph   api.Graph
	first   []int // by vertex: a half-edge that leaves it, or none
	another []int // by half-edge: another one that leaves the same vertex, none behind the last
	leading []int // by vertex: the half-edge that was told last to lead to it
}

func newFinder(g api.Graph) *finder {
	f := &finder{
		graph:   g,
		first:   slices.Repeat([]int{none}, g.N),
		another: make([]int, 2*len(g.Edges)),
		leading: slices.Repeat([]int{none}, g.N),
	}
	for h := range f.another {
		v := beginsAt(g, h)
		f.another[h] = f.first[v]
		f.first[v] = h
	}
	return f
}

// at: from now on half-edges that leave v are sought.
func (f *finder) at(v int) {
	for h := f.first[v]; h != none; h = f.another[h] {
		f.leading[leadsTo(f.graph, h)] = h
	}
}

// to: the half-edge to w; if there is none, then none or one that leaves another vertex, of which at was told before.
func (f *finder) to(w int) int {
	if w < 0 || w >= f.graph.N {
		return none
	}
	return f.leading[w]
}
