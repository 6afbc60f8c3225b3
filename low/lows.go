package low

import (
	"slices"

	"tangram/api"
	"tangram/bucket"
)

// twoLowest keeps the two lowest of most and the heights that it is told, and answers them; twice most till a lower one has come. The second is never above most: so heights above it leave no trace, and who tells them needn't ask.
func twoLowest(most int) func(heights ...int) (int, int) {
	low, low2 := most, most
	return func(heights ...int) (int, int) {
		for _, height := range heights {
			switch {
			case height < low:
				low, low2 = height, low
			case height > low && height < low2:
				low2 = height
			}
		}
		return low, low2
	}
}

// lows goes through the vertices from the last one back, so that all below an edge has been told when the edge is asked; nothing recurses.
func (w *walked) lows() api.Low {
	l := api.Low{Low: make([]int, w.adj.M()), Low2: make([]int, w.adj.M())}
	for _, v := range slices.Backward(w.forest.Order) {
		for h := range w.from(v) {
			l.Low[h/2], l.Low2[h/2] = w.leads(h, l)
		}
	}
	return l
}

// leads: the two lowest heights where the edge of h leads. Of a tree edge they are among the two lowest of each edge that is walked on from its end.
func (w *walked) leads(h int, l api.Low) (int, int) {
	keep := twoLowest(w.begins(h))
	if w.back(h) {
		return keep(w.ends(h))
	}
	for on := range w.from(w.adj.To(h)) {
		keep(l.Low[on/2], l.Low2[on/2])
	}
	return keep()
}

func (w *walked) nests(l api.Low) []int {
	nest := make([]int, len(l.Low))
	for e, h := range w.forest.Orient {
		nest[e] = 2 * l.Low[e]
		if l.Low2[e] > l.Low[e] && l.Low2[e] < w.begins(h) {
			nest[e]++
		}
	}
	return nest
}

// outs sorts the half-edges of all vertices at once. Orient has them rising by their numbers, and what is of one depth stays in its order.
func (w *walked) outs(nest []int) [][]int {
	most := 2 * w.adj.N() // heights are below N: so no depth is above, and the sorting finds no fault
	sorted, _ := bucket.Sort(w.forest.Orient, func(h int) int { return nest[h/2] }, most)
	out := make([][]int, w.adj.N())
	for _, h := range sorted {
		v := w.adj.From(h)
		out[v] = append(out[v], h)
	}
	return out
}
