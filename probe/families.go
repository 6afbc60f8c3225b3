package probe

import (
	"slices"

	"tangram/api"
)

// TwoPart: each of the first a vertices joined to each of the b others.
func TwoPart(a, b int) api.Graph {
	g := api.Graph{N: a + b}
	for u := range a {
		for v := range b {
			g.Edges = append(g.Edges, api.Edge{U: u, V: a + v})
		}
	}
	return g
}

// Grid: rows of vertices, each joined to the next ones in its row and column.
func Grid(rows, columns int) api.Graph { return grid(rows, columns, false) }

// Slanted: a grid with a slanting edge in each of its squares.
func Slanted(rows, columns int) api.Graph { return grid(rows, columns, true) }

func grid(rows, columns int, slanted bool) api.Graph {
	g := api.Graph{N: rows * columns}
	for v := range g.N {
		right, down := v%columns < columns-1, v/columns < rows-1
		if right {
			g.Edges = append(g.Edges, api.Edge{U: v, V: v + 1})
		}
		if down {
			g.Edges = append(g.Edges, api.Edge{U: v, V: v + columns})
		}
		if right && down && slanted {
			g.Edges = append(g.Edges, api.Edge{U: v, V: v + columns + 1})
		}
	}
	return g
}

// Hubs: a graph with so many vertices more, each joined to all of the graph's.
func Hubs(g api.Graph, count int) api.Graph {
	all := api.Graph{N: g.N + count, Edges: make([]api.Edge, 0, len(g.Edges)+count*g.N)}
	rest := g.Edges
	for v := range g.N {
		for len(rest) > 0 && rest[0].U == v {
			all.Edges = append(all.Edges, rest[0])
			rest = rest[1:]
		}
		for k := range count {
			all.Edges = append(all.Edges, api.Edge{U: v, V: g.N + k})
		}
	}
	return all
}

// Wheel: a cycle of so many vertices, 3 or more, all of them joined to one in the middle.
func Wheel(spokes int) api.Graph { return Hubs(Cycle(spokes), 1) }

// Petersen: Petersen's graph.
func Petersen() api.Graph {
	var pairs [][2]int
	for v := range 5 {
		pairs = append(pairs, [2]int{v, (v + 1) % 5}, [2]int{v, v + 5}, [2]int{v + 5, (v+2)%5 + 5})
	}
	return OfPairs(10, pairs)
}

// Pairs: the edges as pairs.
func Pairs(g api.Graph) [][2]int {
	list := make([][2]int, len(g.Edges))
	for i, e := range g.Edges {
		list[i] = [2]int{e.U, e.V}
	}
	return list
}

// Without: the graph without an edge.
func Without(g api.Graph, e int) api.Graph {
	return api.Graph{N: g.N, Edges: slices.Delete(slices.Clone(g.Edges), e, e+1)}
}

// Plus: the graph with edges more, those that it has already among them or not.
func Plus(g api.Graph, more ...[2]int) api.Graph { return OfPairs(g.N, append(Pairs(g), more...)) }

// Divided: the graph with so many vertices put on an edge.
func Divided(g api.Graph, e, count int) api.Graph {
	pairs := Pairs(Without(g, e))
	last := g.Edges[e].U
	for k := range count {
		pairs = append(pairs, [2]int{last, g.N + k})
		last = g.N + k
	}
	return OfPairs(g.N+count, append(pairs, [2]int{last, g.Edges[e].V}))
}

// DividedAll: the graph with so many vertices put on each edge.
func DividedAll(g api.Graph, count int) api.Graph {
	var pairs [][2]int
	n := g.N
	for _, e := range g.Edges {
		last := e.U
		for range count {
			pairs = append(pairs, [2]int{last, n})
			last = n
			n++
		}
		pairs = append(pairs, [2]int{last, e.V})
	}
	return OfPairs(n, pairs)
}

// Hung: two graphs that have one vertex in common: v of the second is u of the first.
func Hung(a api.Graph, u int, b api.Graph, v int) api.Graph {
	both := Beside(a, b)
	pairs := Pairs(both)
	last := both.N - 1
	named := func(x int) int {
		switch x {
		case a.N + v:
			return u
		case last: // takes the place that has become free
			return a.N + v
		}
		return x
	}
	for i, p := range pairs {
		pairs[i] = [2]int{named(p[0]), named(p[1])}
	}
	return OfPairs(last, pairs)
}

// Renamed: the graph with names[v] for each vertex v.
func Renamed(g api.Graph, names []int) api.Graph {
	pairs := Pairs(g)
	for i, p := range pairs {
		pairs[i] = [2]int{names[p[0]], names[p[1]]}
	}
	return OfPairs(g.N, pairs)
}

// Renamed: the graph under names that are thrown.
func (d *Dice) Renamed(g api.Graph) api.Graph { return Renamed(g, Mixed(d, Rising(g.N))) }

// Part: the graph without some of its edges, so many in a hundred.
func (d *Dice) Part(g api.Graph, k int) api.Graph {
	part := api.Graph{N: g.N}
	for _, e := range g.Edges {
		if d.Below(100) >= k {
			part.Edges = append(part.Edges, e)
		}
	}
	return part
}

// triangles: a graph whose faces are triangles: by the ends of each edge, in both orders, the third vertex of the face that lies left of it.
type triangles struct {
	third map[[2]int]int
	edges [][2]int
}

func (x *triangles) face(u, v, w int) {
	x.third[[2]int{u, v}], x.third[[2]int{v, w}], x.third[[2]int{w, u}] = w, u, v
}

// split puts a new vertex into the face that lies left of an edge.
func (x *triangles) split(edge [2]int, v int) {
	a, b, c := edge[0], edge[1], x.third[edge]
	x.face(a, b, v)
	x.face(b, c, v)
	x.face(c, a, v)
	x.edges = append(x.edges, [2]int{a, v}, [2]int{b, v}, [2]int{c, v})
}

// flip takes an edge away and joins the two others of its faces' vertices instead, if they aren't joined.
func (x *triangles) flip(i int) {
	a, b := x.edges[i][0], x.edges[i][1]
	c, d := x.third[[2]int{a, b}], x.third[[2]int{b, a}]
	if _, joined := x.third[[2]int{c, d}]; joined || c == d {
		return
	}
	delete(x.third, [2]int{a, b})
	delete(x.third, [2]int{b, a})
	x.face(a, d, c)
	x.face(d, b, c)
	x.edges[i] = [2]int{c, d}
}

// Triangles: a planar graph of n vertices, 3 or more, with as many edges as one can have, 3 * n - 6; its edges have been flipped so many times. Its vertices have thrown names.
func (d *Dice) Triangles(n, flips int) api.Graph {
	x := &triangles{third: make(map[[2]int]int), edges: [][2]int{{0, 1}, {1, 2}, {2, 0}}}
	x.face(0, 1, 2)
	x.face(2, 1, 0)
	for v := 3; v < n; v++ {
		edge := x.edges[d.Below(len(x.edges))]
		if d.Below(2) == 0 {
			edge = [2]int{edge[1], edge[0]}
		}
		x.split(edge, v)
	}
	for range flips {
		x.flip(d.Below(len(x.edges)))
	}
	return d.Renamed(OfPairs(n, x.edges))
}
