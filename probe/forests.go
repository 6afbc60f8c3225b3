package probe

import (
	"cmp"
	"math"
	"slices"

	"tangram/api"
)

// Ends: where a half-edge of the graph begins and leads to.
func Ends(g api.Graph, h int) (from, to int) {
	e := g.Edges[h/2]
	if h%2 == 0 {
		return e.U, e.V
	}
	return e.V, e.U
}

// Leaving: by vertex the half-edges that leave it, sorted by where they lead to.
func Leaving(g api.Graph) [][]int {
	out := make([][]int, g.N)
	for h := range 2 * len(g.Edges) {
		from, _ := Ends(g, h)
		out[from] = append(out[from], h)
	}
	for _, list := range out {
		slices.SortFunc(list, func(h, k int) int {
			_, x := Ends(g, h)
			_, y := Ends(g, k)
			return cmp.Compare(x, y)
		})
	}
	return out
}

// Walked: the depth-first forest that comes of taking the roots in this order, and at each vertex the half-edges in that one; by a call that calls itself.
func Walked(g api.Graph, roots []int, out [][]int) api.Forest {
	f := api.Forest{Parent: make([]int, g.N), Height: make([]int, g.N), Orient: make([]int, len(g.Edges))}
	reached, walked := make([]bool, g.N), make([]bool, len(g.Edges))
	var reach func(v int)
	reach = func(v int) {
		reached[v] = true
		f.Order = append(f.Order, v)
		for _, h := range out[v] {
			if walked[h/2] {
				continue
			}
			walked[h/2] = true
			f.Orient[h/2] = h
			if _, w := Ends(g, h); !reached[w] {
				f.Parent[w], f.Height[w] = h, f.Height[v]+1
				reach(w)
			}
		}
	}
	for _, v := range roots {
		if !reached[v] {
			f.Parent[v] = -1
			reach(v)
		}
	}
	return f
}

// Forest: a depth-first forest of the graph, its roots and ways thrown.
func (d *Dice) Forest(g api.Graph) api.Forest {
	out := Leaving(g)
	for v, list := range out {
		out[v] = Mixed(d, list)
	}
	return Walked(g, Mixed(d, Rising(g.N)), out)
}

// Forests: all depth-first forests of a graph of few edges, each once.
func Forests(g api.Graph) []api.Forest {
	all := []api.Forest{}
	for _, roots := range Arranged(Rising(g.N)) {
		outs := [][][]int{nil}
		for _, list := range Leaving(g) {
			outs = behindEach(outs, Arranged(list))
		}
		for _, out := range outs {
			f := Walked(g, roots, out)
			if !slices.ContainsFunc(all, func(other api.Forest) bool { return SameForest(f, other) }) {
				all = append(all, f)
			}
		}
	}
	return all
}

// behindEach: each of the lists with each of the items behind it.
func behindEach[T any](lists [][]T, items []T) [][]T {
	var all [][]T
	for _, list := range lists {
		for _, item := range items {
			all = append(all, append(slices.Clone(list), item))
		}
	}
	return all
}

// IsTree: whether the edge is a tree edge.
func IsTree(g api.Graph, f api.Forest, e int) bool {
	_, w := Ends(g, f.Orient[e])
	return f.Parent[w] == f.Orient[e]
}

// standsAbove: whether one comes from v to u by going to the parent.
func standsAbove(g api.Graph, f api.Forest, u, v int) bool {
	for v != u {
		if f.Parent[v] == -1 {
			return false
		}
		v, _ = Ends(g, f.Parent[v])
	}
	return true
}

// Returns: the return edges of an edge, rising; each back edge is asked.
func Returns(g api.Graph, f api.Forest, e int) []int {
	if !IsTree(g, f, e) {
		return []int{e}
	}
	v, w := Ends(g, f.Orient[e])
	var list []int
	for k := range g.Edges {
		from, to := Ends(g, f.Orient[k])
		if !IsTree(g, f, k) && standsAbove(g, f, w, from) && f.Height[to] < f.Height[v] {
			list = append(list, k)
		}
	}
	return list
}

// SameForest: are all four lists the same?
func SameForest(a, b api.Forest) bool {
	return slices.Equal(a.Parent, b.Parent) && slices.Equal(a.Height, b.Height) && slices.Equal(a.Order, b.Order) && slices.Equal(a.Orient, b.Orient)
}

// CopyForest: the same numbers in lists of their own.
func CopyForest(f api.Forest) api.Forest {
	return api.Forest{Parent: slices.Clone(f.Parent), Height: slices.Clone(f.Height), Order: slices.Clone(f.Order), Orient: slices.Clone(f.Orient)}
}

// Spoiled: the forest with a number or two changed, or a list's length.
func (d *Dice) Spoiled(g api.Graph, f api.Forest) api.Forest {
	f = CopyForest(f)
	lists := []*[]int{&f.Parent, &f.Height, &f.Order, &f.Orient}
	for range 1 + d.Below(2) {
		list := lists[d.Below(4)]
		if len(*list) == 0 || d.Below(20) == 0 {
			*list = append(*list, d.Below(3)-1)
			continue
		}
		at := d.Below(len(*list))
		switch d.Below(6) {
		case 0:
			(*list)[at] ^= 1
		case 1:
			other := d.Below(len(*list))
			(*list)[at], (*list)[other] = (*list)[other], (*list)[at]
		case 2:
			(*list)[at]++
		case 3:
			(*list)[at]--
		case 4:
			(*list)[at] = d.Below(2*len(g.Edges)+3) - 2
		default:
			(*list)[at] = []int{math.MinInt64, math.MaxInt64, -1, -2, g.N, 2 * len(g.Edges)}[d.Below(6)]
		}
	}
	return f
}

// Rising: the numbers from 0 to n - 1.
func Rising(n int) []int {
	list := make([]int, n)
	for i := range list {
		list[i] = i
	}
	return list
}

// Mixed: a list in an order that is thrown.
func Mixed[T any](d *Dice, list []T) []T {
	mixed := slices.Clone(list)
	for i := len(mixed) - 1; i > 0; i-- {
		j := d.Below(i + 1)
		mixed[i], mixed[j] = mixed[j], mixed[i]
	}
	return mixed
}

// Arranged: a list in all its orders.
func Arranged[T any](list []T) [][]T {
	if len(list) == 0 {
		return [][]T{nil}
	}
	var all [][]T
	for i := range list {
		rest := slices.Delete(slices.Clone(list), i, i+1)
		for _, order := range Arranged(rest) {
			all = append(all, append(order, list[i]))
		}
	}
	return all
}
