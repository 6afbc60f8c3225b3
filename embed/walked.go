package embed

import (
	"slices"

	"tangram/api"
	"tangram/low"
)

// none: a half-edge or a vertex that isn't there.
const none = -1

// The two sides of a partition.
const (
	left  = -1
	right = 1
)

// walked is a graph with its walk and an aligned left-right partition of that.
type walked struct {
	graph  api.Graph
	forest api.Forest
	side   []int   // by edge; of a tree edge, too
	out    [][]int // by vertex: the half-edges that are walked from it, from the left to the right
}

func read(g api.Graph, f api.Forest, p api.Partition) *walked {
	l, _ := low.Of(g, f) // a walk is a depth-first forest
	w := &walked{graph: g, forest: f, side: slices.Clone(p)}
	w.tellTreeSides()
	w.out = make([][]int, g.N)
	for v, list := range l.Out {
		w.out[v] = w.fromTheLeft(list)
	}
	return w
}

// fromTheLeft: the half-edges that are walked from a vertex, as they stand round it, out of their order by nesting depth. What leads further up lies round what doesn't: so it stands in the middle.
func (w *walked) fromTheLeft(byNesting []int) []int {
	list := make([]int, 0, len(byNesting))
	for _, h := range slices.Backward(byNesting) {
		if w.side[h/2] == left {
			list = append(list, h)
		}
	}
	for _, h := range byNesting {
		if w.side[h/2] == right {
			list = append(list, h)
		}
	}
	return list
}

// from and to: where a half-edge begins and leads to. (simple.Ends would look through the whole graph each time.)
func (w *walked) from(h int) int { return w.to(h ^ 1) }

func (w *walked) to(h int) int {
	if h%2 == 0 {
		return w.graph.Edges[h/2].V
	}
	return w.graph.Edges[h/2].U
}

// back: of a half-edge that is walked.
func (w *walked) back(h int) bool { return w.forest.Parent[w.to(h)] != h }
