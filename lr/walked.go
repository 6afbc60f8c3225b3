package lr

import (
	"tangram/api"
	"tangram/low"
)

// none: a half-edge, an edge or a height that isn't there.
const none = -1

// walked is a graph with a depth-first forest of it, and how far up its edges lead back.
type walked struct {
	graph  api.Graph
	forest api.Forest
	low    api.Low
}

func read(g api.Graph, f api.Forest) (*walked, api.Errno) {
	l, code := low.Of(g, f)
	if code != api.OK {
		return nil, code
	}
	return &walked{graph: g, forest: f, low: l}, api.OK
}

// from and to: where a half-edge begins and leads to. (simple.Ends would look through the whole graph each time.)
func (w *walked) from(h int) int { return w.to(h ^ 1) }

func (w *walked) to(h int) int {
	if h%2 == 0 {
		return w.graph.Edges[h/2].V
	}
	return w.graph.Edges[h/2].U
}

// back: of a half-edge that is walked.
func (w *walked) back(h int) bool { return w.forest.Parent[w.to(h)] != h }

// begins: the height of the vertex where a half-edge begins.
func (w *walked) begins(h int) int { return w.forest.Height[w.from(h)] }

// returns: has the edge of a half-edge that is walked a return edge?
func (w *walked) returns(h int) bool { return w.low.Low[h/2] < w.begins(h) }

func (w *walked) isPartition(p api.Partition) bool {
	if len(p) != len(w.forest.Orient) {
		return false
	}
	for e, h := range w.forest.Orient {
		if !isSide(p[e], w.back(h)) {
			return false
		}
	}
	return true
}

func isSide(side int, back bool) bool {
	if back {
		return side == 1 || side == -1
	}
	return side == 0
}
