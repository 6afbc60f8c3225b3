package dfs

import (
	"tangram/api"
	"tangram/csr"
)

// none: a half-edge that isn't there; the Parent of a root; the Orient of an edge that hasn't been walked yet, the Height of a vertex that hasn't been reached.
const none = -1

// walker is a walk under way.
type walker struct {
	adj    *csr.Adj
	forest api.Forest
	ahead  stack[int] // for each vertex on the way that one has come, the half-edge to be looked at next; none: it has no more
}

func newWalker(a *csr.Adj) *walker {
	return &walker{adj: a, forest: api.Forest{
		Parent: unset(a.N()),
		Height: unset(a.N()),
		Order:  make([]int, 0, a.N()),
		Orient: unset(a.M()),
	}}
}

// unset: so many numbers that nothing has been said of.
func unset(count int) []int {
	list := make([]int, count)
	for i := range list {
		list[i] = none
	}
	return list
}

func (w *walker) reached(v int) bool { return w.forest.Height[v] != none }

func (w *walker) walked(h int) bool { return w.forest.Orient[h/2] != none }

// walkTree walks all that is reached from a root.
func (w *walker) walkTree(root int) {
	w.reach(root, none, 0)
	for !w.ahead.empty() {
		h := w.ahead.pop()
		if h == none {
			continue
		}
		w.ahead.push(w.adj.After(h))
		if !w.walked(h) {
			w.walk(h)
		}
	}
}

// walk: what it reaches lies on top of what is left of the vertex where h begins, and so comes ahead of it.
func (w *walker) walk(h int) {
	w.forest.Orient[h/2] = h
	to := w.adj.To(h)
	if !w.reached(to) {
		w.reach(to, h, w.forest.Height[w.adj.From(h)]+1)
	}
}

func (w *walker) reach(v, by, height int) {
	w.forest.Parent[v] = by
	w.forest.Height[v] = height
	w.forest.Order = append(w.forest.Order, v)
	w.ahead.push(w.adj.First(v))
}
