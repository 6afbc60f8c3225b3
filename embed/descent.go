package embed

// descend goes down from each root, at each vertex by what is walked from it, from the left to the right; all that is below a tree edge comes ahead of the next edge. It tells each half-edge that it comes by: of a tree edge, or of a back edge on the left or on the right.
func (w *walked) descend(tree, onLeft, onRight func(h int)) {
	met := make([]int, w.graph.N) // by vertex: how many of the edges that are walked from it
	for _, root := range w.forest.Order {
		if w.forest.Parent[root] != none {
			continue
		}
		for v := root; v != none; {
			if met[v] == len(w.out[v]) {
				v = w.parent(v)
				continue
			}
			h := w.out[v][met[v]]
			met[v]++
			switch {
			case !w.back(h):
				tree(h)
				v = w.to(h)
			case w.side[h/2] == left:
				onLeft(h)
			default:
				onRight(h)
			}
		}
	}
}

// parent: the vertex from which v was reached; none of a root.
func (w *walked) parent(v int) int {
	if h := w.forest.Parent[v]; h != none {
		return w.from(h)
	}
	return none
}
