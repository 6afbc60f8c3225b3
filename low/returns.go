package low

import "slices"

// returns: the return edges of an edge, rising.
func (w *walked) returns(e int) []int {
	h := w.forest.Orient[e]
	if w.back(h) {
		return []int{e}
	}
	var list []int
	for _, x := range w.below(w.adj.To(h)) {
		for k := range w.from(x) {
			if w.back(k) && w.ends(k) < w.begins(h) {
				list = append(list, k/2)
			}
		}
	}
	slices.Sort(list)
	return list
}

// below: the vertices below v, a piece of Order. They stand side by side from v on, all of them of greater height than v; the one behind them isn't.
func (w *walked) below(v int) []int {
	heights := w.forest.Height
	on := w.forest.Order[slices.Index(w.forest.Order, v):]
	for i, x := range on {
		if i > 0 && heights[x] <= heights[v] {
			return on[:i]
		}
	}
	return on
}
