package csr

import (
	"slices"

	"tangram/api"
)

// starts: by vertex, how many half-edges leave the vertices below it.
func starts(degree []int) []int {
	start := make([]int, len(degree))
	sum := 0
	for v := range len(degree) {
		start[v] = sum
		sum += degree[v]
	}
	return start
}

// fill needs no sorting: edges rise, so that each vertex is given its edges to lower ones ahead of those to higher ones, and both rising.
func (a *Adj) fill(edges []api.Edge) {
	free := slices.Clone(a.start)
	for i := range len(edges) {
		e := edges[i]
		a.put(2*i, e.U, e.V, free)
		a.put(2*i+1, e.V, e.U, free)
	}
}

// put lays a half-edge at the next free place of the vertex at which it begins.
func (a *Adj) put(h, from, to int, free []int) {
	a.to[h] = to
	a.place[h] = free[from]
	a.halves[free[from]] = h
	free[from]++
}

func (a *Adj) hasVertex(v int) bool { return v >= 0 && v < a.N() }

func (a *Adj) hasHalf(h int) bool { return h >= 0 && h < 2*a.M() }

// leaving: the half-edges that leave v, in its order; none for no vertex. It is a piece of what is kept: not to be handed out.
func (a *Adj) leaving(v int) []int {
	if !a.hasVertex(v) {
		return nil
	}
	return a.halves[a.start[v]:][:a.degree[v]]
}
