package probe

import (
	"cmp"
	"slices"

	"tangram/api"
)

// Lists: all lists of at most so many of these items, the shortest first.
func Lists[T any](items []T, most int) [][]T {
	all := [][]T{nil}
	from := 0
	for range most {
		to := len(all)
		for _, list := range all[from:to] {
			for _, item := range items {
				all = append(all, append(list[:len(list):len(list)], item))
			}
		}
		from = to
	}
	return all
}

// With: a graph as it is told, valid or not.
func With(n int, edges ...api.Edge) api.Graph { return api.Graph{N: n, Edges: edges} }

// OfEnds: a graph by the ends of its edges, two by two, as they are told.
func OfEnds(n int, ends ...int) api.Graph {
	g := api.Graph{N: n}
	for i := 0; i < len(ends); i += 2 {
		g.Edges = append(g.Edges, api.Edge{U: ends[i], V: ends[i+1]})
	}
	return g
}

// Graphs: all graphs of n vertices.
func Graphs(n int) []api.Graph {
	every := Complete(n).Edges
	all := make([]api.Graph, 0, 1<<len(every))
	for chosen := range 1 << len(every) {
		g := api.Graph{N: n}
		for i, e := range every {
			if chosen>>i&1 == 1 {
				g.Edges = append(g.Edges, e)
			}
		}
		all = append(all, g)
	}
	return all
}

// Complete: n vertices, each joined to each.
func Complete(n int) api.Graph {
	g := api.Graph{N: n, Edges: make([]api.Edge, 0, n*(n-1)/2)}
	for u := range n {
		for v := u + 1; v < n; v++ {
			g.Edges = append(g.Edges, api.Edge{U: u, V: v})
		}
	}
	return g
}

// Star: n vertices, 2 or more, the one in the middle joined to each other one.
func Star(n, middle int) api.Graph {
	g := api.Graph{N: n, Edges: make([]api.Edge, 0, n-1)}
	for v := range n {
		if v != middle {
			g.Edges = append(g.Edges, api.Edge{U: min(v, middle), V: max(v, middle)})
		}
	}
	return g
}

// Path: n vertices, 1 or more, each joined to the one behind it.
func Path(n int) api.Graph {
	g := api.Graph{N: n, Edges: make([]api.Edge, 0, n-1)}
	for v := range n - 1 {
		g.Edges = append(g.Edges, api.Edge{U: v, V: v + 1})
	}
	return g
}

// Cycle: n vertices, 3 or more, each joined to the one behind it, the last to the first.
func Cycle(n int) api.Graph {
	g := api.Graph{N: n, Edges: []api.Edge{{U: 0, V: 1}, {U: 0, V: n - 1}}}
	g.Edges = append(g.Edges, Path(n).Edges[1:]...)
	return g
}

// Beside: graphs side by side, the vertices of each behind those of the one ahead of it.
func Beside(parts ...api.Graph) api.Graph {
	var g api.Graph
	for _, part := range parts {
		for _, e := range part.Edges {
			g.Edges = append(g.Edges, api.Edge{U: g.N + e.U, V: g.N + e.V})
		}
		g.N += part.N
	}
	return g
}

// Dense: a graph of m edges on as few vertices as can have them; m may be beyond the limits.
func Dense(m int) api.Graph {
	n := 2
	for n*(n-1)/2 < m {
		n++
	}
	g := Complete(n)
	g.Edges = g.Edges[:m:m]
	return g
}

// Graph: a graph of n vertices in which each two are joined as often as k throws in a hundred say.
func (d *Dice) Graph(n, k int) api.Graph {
	g := api.Graph{N: n}
	for _, e := range Complete(n).Edges {
		if d.Below(100) < k {
			g.Edges = append(g.Edges, e)
		}
	}
	return g
}

// Thin: a tree, each vertex joined to one that is a little below it by its number, and some edges more.
func (d *Dice) Thin(n, more int) api.Graph {
	pairs := d.Pairs(n, more)
	for v := 1; v < n; v++ {
		pairs = append(pairs, [2]int{v, max(0, v-1-d.Below(3))})
	}
	return OfPairs(n, pairs)
}

// OfPairs: the graph of pairs in any order; loops and doubles are dropped.
func OfPairs(n int, pairs [][2]int) api.Graph {
	g := api.Graph{N: n}
	for _, p := range pairs {
		if p[0] != p[1] {
			g.Edges = append(g.Edges, api.Edge{U: min(p[0], p[1]), V: max(p[0], p[1])})
		}
	}
	slices.SortFunc(g.Edges, func(a, b api.Edge) int { return cmp.Or(cmp.Compare(a.U, b.U), cmp.Compare(a.V, b.V)) })
	g.Edges = slices.Compact(g.Edges)
	return g
}

// Small: few enough vertices that each may be asked for with each.
func Small() []api.Graph {
	all := []api.Graph{
		{N: 3, Edges: []api.Edge{}},
		With(9, api.Edge{U: 3, V: 5}),
		Beside(Complete(4), With(2), Cycle(5), Path(1), Star(6, 2), Path(4), With(1)),
		Beside(With(3), Complete(5), Complete(5)),
	}
	for n := range 6 {
		all = append(all, With(n))
		all = append(all, Graphs(n)...)
	}
	for _, n := range []int{2, 3, 7, 20} {
		all = append(all, Path(n), Complete(n), Star(n, 0), Star(n, n/2), Star(n, n-1))
	}
	for _, n := range []int{3, 4, 7, 20} {
		all = append(all, Cycle(n))
	}
	d := Dice(17)
	for range 200 {
		all = append(all, d.Graph(1+d.Below(30), d.Below(101)))
	}
	return all
}

// Great: those at the limits.
func Great() []api.Graph {
	last := api.MaxN - 1
	return []api.Graph{
		With(api.MaxN),
		With(api.MaxN, api.Edge{U: 0, V: last}, api.Edge{U: 77, V: 78}, api.Edge{U: 77, V: last}),
		Path(api.MaxN),
		Cycle(api.MaxN),
		Star(api.MaxN, 0),
		Star(api.MaxN, api.MaxN/2),
		Star(api.MaxN, last),
		Dense(api.MaxEdges),
	}
}

// Shown: a graph short enough for a message.
func Shown(g api.Graph) api.Graph {
	if len(g.Edges) > 20 {
		g.Edges = g.Edges[:20]
	}
	return g
}

// Invalid: graphs that aren't valid, in each way in which one may not be.
func Invalid() []api.Graph {
	return []api.Graph{
		With(-1), With(api.MaxN + 1), With(-1 << 63), With(1<<63 - 1),
		With(-1, api.Edge{U: 0, V: 1}), With(api.MaxN+1, api.Edge{U: 0, V: 1}),
		With(0, api.Edge{U: 0, V: 0}), With(0, api.Edge{U: 0, V: 1}), With(1, api.Edge{U: 0, V: 1}), With(3, api.Edge{U: 0, V: 3}), With(3, api.Edge{U: 3, V: 4}),
		With(api.MaxN, api.Edge{U: 0, V: api.MaxN}), With(3, api.Edge{U: 0, V: 1<<63 - 1}), With(3, api.Edge{U: 0, V: 2}, api.Edge{U: 1, V: 3}),
		With(3, api.Edge{U: 1, V: 0}), With(3, api.Edge{U: 2, V: 1}), With(3, api.Edge{U: 0, V: 1}, api.Edge{U: 2, V: 1}),
		With(3, api.Edge{U: 0, V: 0}), With(3, api.Edge{U: 1, V: 1}), With(3, api.Edge{U: 0, V: 1}, api.Edge{U: 1, V: 1}),
		With(3, api.Edge{U: -1, V: 0}), With(3, api.Edge{U: -1, V: 1}), With(3, api.Edge{U: -2, V: -1}), With(3, api.Edge{U: -1 << 63, V: 2}), With(3, api.Edge{U: 0, V: -1}),
		With(3, api.Edge{U: 1, V: 2}, api.Edge{U: 0, V: 2}), With(4, api.Edge{U: 0, V: 3}, api.Edge{U: 0, V: 2}), With(4, api.Edge{U: 0, V: 1}, api.Edge{U: 2, V: 3}, api.Edge{U: 1, V: 3}),
		With(2, api.Edge{U: 0, V: 1}, api.Edge{U: 0, V: 1}), With(4, api.Edge{U: 0, V: 1}, api.Edge{U: 1, V: 3}, api.Edge{U: 1, V: 3}), With(4, api.Edge{U: 0, V: 1}, api.Edge{U: 2, V: 3}, api.Edge{U: 0, V: 1}),
		Dense(api.MaxEdges + 1),
	}
}

// Disorder: the edges as pairs in any order, their ends changed about, with loops and doubles put between.
func (d *Dice) Disorder(g api.Graph) [][2]int {
	var pairs [][2]int
	for _, e := range g.Edges {
		for range 1 + d.Below(3)*d.Below(2) {
			pairs = append(pairs, d.turned(e))
		}
	}
	for range min(g.N, d.Below(4)) {
		v := d.Below(g.N)
		pairs = append(pairs, [2]int{v, v})
	}
	return Mixed(d, pairs)
}

func (d *Dice) turned(e api.Edge) [2]int {
	if d.Below(2) == 0 {
		return [2]int{e.V, e.U}
	}
	return [2]int{e.U, e.V}
}
