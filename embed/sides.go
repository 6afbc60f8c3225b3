package embed

import "slices"

// tellTreeSides puts each tree edge on the side of one of its highest return edges; on the right, if it has none. It may have such on both sides: then all other edges that are walked from its vertex have greater nesting depths, and it stands in the middle, whichever side it is told.
//
// The vertices are gone through from the last one back. So, on the way from an edge up, the highest vertex to which something leads back comes first, and an edge that has been told its side is passed over for good.
func (w *walked) tellTreeSides() {
	into := w.into()
	up := newSkips(w.graph.N)
	for _, v := range slices.Backward(w.forest.Order) {
		for _, h := range into[v] {
			for x := up.from(w.from(h)); w.forest.Height[x] > w.forest.Height[v]+1; x = up.from(x) {
				by := w.forest.Parent[x]
				w.side[by/2] = w.side[h/2]
				up[x] = w.from(by)
			}
		}
	}
	for e, side := range w.side {
		if side == 0 {
			w.side[e] = right
		}
	}
}

// into: by vertex the half-edges by which back edges are walked to it.
func (w *walked) into() [][]int {
	into := make([][]int, w.graph.N)
	for _, h := range w.forest.Orient {
		if w.back(h) {
			into[w.to(h)] = append(into[w.to(h)], h)
		}
	}
	return into
}

// skips: by vertex one above it, all tree edges between them being passed over; itself, if the edge that reaches it isn't.
type skips []int

func newSkips(count int) skips {
	s := make(skips, count)
	for v := range s {
		s[v] = v
	}
	return s
}

// from: the first vertex from v up that isn't passed over. The way is made shorter for those who come later.
func (s skips) from(v int) int {
	for s[v] != v {
		s[v] = s[s[v]]
		v = s[v]
	}
	return v
}
