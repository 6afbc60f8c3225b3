package dfs

import (
	"tangram/api"
	"tangram/csr"
)

// reading is a forest that is held against a graph, with what is found on the way: the vertices below v stand in Order from place[v] to ahead of behind[v].
type reading struct {
	adj    *csr.Adj
	forest api.Forest
	place  []int // by vertex: where it stands in Order
	behind []int // by vertex: the place behind the last of the vertices below it
}

// read: false, if the graph isn't valid or the forest is no depth-first forest of it. The conditions are asked in the chapter's order; each may lean on those ahead of it.
func read(g api.Graph, f api.Forest) (*reading, bool) {
	a, code := csr.New(g)
	if code != api.OK {
		return nil, false
	}
	r := &reading{adj: a, forest: f}
	return r, r.rightLengths() && r.eachOnce() && r.rightParents() && r.sideBySide() && r.rightEdges()
}

func (r *reading) hasVertex(v int) bool { return v >= 0 && v < r.adj.N() }

func (r *reading) rightLengths() bool {
	n, m, f := r.adj.N(), r.adj.M(), r.forest
	return len(f.Parent) == n && len(f.Height) == n && len(f.Order) == n && len(f.Orient) == m
}

// eachOnce: as many vertices as there are, none twice: so none is missing.
func (r *reading) eachOnce() bool {
	r.place = unset(r.adj.N())
	for i, v := range r.forest.Order {
		if !r.hasVertex(v) || r.place[v] != none {
			return false
		}
		r.place[v] = i
	}
	return true
}

// rightParents: heights rise by one from each vertex to the next, so that no way up goes round in a circle, and they count from a root's 0.
func (r *reading) rightParents() bool {
	for v := range r.adj.N() {
		if !r.rightParent(v) {
			return false
		}
	}
	return true
}

func (r *reading) rightParent(v int) bool {
	by, height := r.forest.Parent[v], r.forest.Height[v]
	if by == none {
		return height == 0
	}
	if r.adj.To(by) != v { // nor does what is no half-edge lead to v
		return false
	}
	return r.forest.Orient[by/2] == by && height == r.forest.Height[r.adj.From(by)]+1
}

// sideBySide keeps the way from a root down to the vertex that was come by last. The parent of the next one must be on it; what lies below that parent on the way is left for good, since each vertex stands once.
func (r *reading) sideBySide() bool {
	r.behind = make([]int, r.adj.N())
	var way stack[int]
	for i, v := range r.forest.Order {
		parent := r.adj.From(r.forest.Parent[v]) // none of a root
		r.leave(&way, parent, i)
		if parent != none && way.empty() {
			return false
		}
		way.push(v)
	}
	r.leave(&way, none, len(r.forest.Order))
	return true
}

// leave takes from the way what lies below upTo, all of it for none: the vertices below those that are taken end ahead of the place.
func (r *reading) leave(way *stack[int], upTo, place int) {
	for !way.empty() && way.top() != upTo {
		r.behind[way.pop()] = place
	}
}

func (r *reading) rightEdges() bool {
	for e, h := range r.forest.Orient {
		if h != 2*e && h != 2*e+1 {
			return false
		}
		from, to := r.adj.From(h), r.adj.To(h)
		if r.forest.Parent[to] != h && !r.above(to, from) { // strictly above, since no edge is a loop
			return false
		}
	}
	return true
}

func (r *reading) above(u, v int) bool {
	return r.place[u] <= r.place[v] && r.place[v] < r.behind[u]
}
