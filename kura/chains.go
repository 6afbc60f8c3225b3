package kura

import (
	"slices"

	"tangram/csr"
)

// walker goes along the chains of a graph.
type walker struct {
	adj  *csr.Adj
	gone []bool // by edge: does it lie on a chain that is told?
}

// chains needs no sorting: the first edge that lies on no chain so far is the least of its own.
func chains(a *csr.Adj) [][]int {
	w := walker{adj: a, gone: make([]bool, a.M())}
	var all [][]int
	for e := range a.M() {
		if !w.gone[e] {
			all = append(all, written(w.along(w.begin(e))))
		}
	}
	return all
}

// begin: a half-edge with which the chain of an edge begins, sought backwards. Round a free cycle one comes to the edge again: if it is the least there, it leads from the least vertex to the lesser one of its neighbours.
func (w walker) begin(e int) int {
	back := 2*e + 1
	h := back
	for next, goes := w.on(h); goes; next, goes = w.on(h) {
		h = next
		if h == back {
			break
		}
	}
	return h ^ 1
}

// along: the vertices from where h begins to the chain's other end.
func (w walker) along(h int) []int {
	list := []int{w.adj.From(h)}
	for goes := true; goes && !w.gone[h/2]; h, goes = w.on(h) {
		w.gone[h/2] = true
		list = append(list, w.adj.To(h))
	}
	return list
}

// on: the half-edge by which a chain goes on behind h; false, if it ends there.
func (w walker) on(h int) (int, bool) {
	v := w.adj.To(h)
	if w.adj.Degree(v) != 2 {
		return 0, false
	}
	first := w.adj.First(v)
	if first == h^1 {
		return w.adj.After(first), true
	}
	return first, true
}

// written: a chain in the one way in which it is written; the list itself is turned about.
func written(chain []int) []int {
	last := len(chain) - 1
	closed := chain[0] == chain[last]
	if chain[0] > chain[last] || closed && chain[1] > chain[last-1] {
		slices.Reverse(chain)
	}
	return chain
}
