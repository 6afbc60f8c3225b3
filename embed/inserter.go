package embed

import "tangram/api"

// inserter puts the twins of back edges in at the vertices above, beside the tree edge by which one has gone down there: the left ones ahead of it, the right ones behind it.
type inserter struct {
	*walked
	rings
	leftMark, rightMark []int // by vertex: the half-edges beside which the next twin is put
}

// newInserter: round each vertex stands the way by which it was reached, then what is walked from it; the twins of back edges aren't there yet.
func newInserter(w *walked) *inserter {
	in := &inserter{
		walked:    w,
		rings:     newRings(2 * len(w.graph.Edges)),
		leftMark:  make([]int, w.graph.N),
		rightMark: make([]int, w.graph.N),
	}
	for v, list := range w.out {
		if h := w.forest.Parent[v]; h != none {
			list = append([]int{h ^ 1}, list...)
		}
		in.close(list)
	}
	return in
}

// mark: one goes down by the tree edge h.
func (in *inserter) mark(h int) {
	v := in.from(h)
	in.leftMark[v], in.rightMark[v] = h, h
}

// putLeft: on the left what comes back later lies round what has come before, so further from the tree edge.
func (in *inserter) putLeft(h int) {
	v := in.to(h)
	in.putBehind(in.ahead[in.leftMark[v]], h^1)
	in.leftMark[v] = h ^ 1
}

// putRight: on the right what comes back later lies within what has come before, so nearer to the tree edge.
func (in *inserter) putRight(h int) {
	in.putBehind(in.rightMark[in.to(h)], h^1)
}

// rotation: canonical, since a half-edge that no ring ahead has is the least of its own.
func (w *walked) rotation() api.Rotation {
	in := newInserter(w)
	w.descend(in.mark, in.putLeft, in.putRight)
	r := make(api.Rotation, w.graph.N)
	for h := range in.next {
		if v := w.from(h); r[v] == nil {
			r[v] = in.round(h)
		}
	}
	return r
}
