package low

import (
	"iter"

	"tangram/api"
	"tangram/csr"
	"tangram/dfs"
)

// walked is a graph with a depth-first forest of it.
type walked struct {
	adj    *csr.Adj
	forest api.Forest
}

func read(g api.Graph, f api.Forest) (*walked, api.Errno) {
	a, code := csr.New(g)
	if code != api.OK {
		return nil, code
	}
	if !dfs.Valid(g, f) {
		return nil, api.ErrForest
	}
	return &walked{adj: a, forest: f}, api.OK
}

// from: the half-edges by which edges are walked from v.
func (w *walked) from(v int) iter.Seq[int] {
	return func(yield func(int) bool) {
		for h := range w.adj.Out(v) {
			if w.forest.Orient[h/2] == h && !yield(h) {
				return
			}
		}
	}
}

// back: of a half-edge that is walked. (dfs.Back would look through all vertices each time.)
func (w *walked) back(h int) bool { return w.forest.Parent[w.adj.To(h)] != h }

// begins and ends: the heights of the vertices where a half-edge begins and to which it leads.
func (w *walked) begins(h int) int { return w.forest.Height[w.adj.From(h)] }

func (w *walked) ends(h int) int { return w.forest.Height[w.adj.To(h)] }
