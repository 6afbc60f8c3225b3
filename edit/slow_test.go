package edit_test

import (
	"slices"
	"testing"

	"tangram/api"
	"tangram/probe"
)

// table: a graph by who is joined to whom, asked by two vertices in either order. The edits are made here in the chapter's words.
type table struct {
	n      int
	joined map[[2]int]bool
}

func empty(n int) table { return table{n, map[[2]int]bool{}} }

func tableOf(g api.Graph) table {
	x := empty(g.N)
	for _, e := range g.Edges {
		x.set(e.U, e.V, true)
	}
	return x
}

func (x table) set(u, v int, joined bool) {
	x.joined[[2]int{u, v}], x.joined[[2]int{v, u}] = joined, joined
}

func (x table) answer() answer {
	g := api.Graph{N: x.n}
	for u := range x.n {
		for v := u + 1; v < x.n; v++ {
			if x.joined[[2]int{u, v}] {
				g.Edges = append(g.Edges, api.Edge{U: u, V: v})
			}
		}
	}
	return answer{g: g}
}

func in(x, count int) bool { return 0 <= x && x < count }

func slowWithout(g api.Graph, e int) answer {
	if !in(e, len(g.Edges)) {
		return fault(api.ErrRange)
	}
	x := tableOf(g)
	x.set(g.Edges[e].U, g.Edges[e].V, false)
	return x.answer()
}

func slowWith(g api.Graph, u, v int) answer {
	x := tableOf(g)
	switch {
	case !in(u, g.N) || !in(v, g.N) || u >= v:
		return fault(api.ErrRange)
	case x.joined[[2]int{u, v}]:
		return fault(api.ErrEdge)
	}
	x.set(u, v, true)
	return x.answer()
}

func slowSub(g api.Graph, keep []int) answer {
	x := empty(g.N)
	for _, e := range keep {
		if !in(e, len(g.Edges)) {
			return fault(api.ErrRange)
		}
		x.set(g.Edges[e].U, g.Edges[e].V, true)
	}
	return x.answer()
}

func slowBeside(a, b api.Graph) answer {
	x := tableOf(a)
	x.n += b.N
	for _, e := range b.Edges {
		x.set(a.N+e.U, a.N+e.V, true)
	}
	return x.answer()
}

func slowRelabel(g api.Graph, to []int) answer {
	if sorted := slices.Sorted(slices.Values(to)); !slices.Equal(sorted, probe.Rising(g.N)) {
		return fault(api.ErrRange)
	}
	x := empty(g.N)
	for _, e := range g.Edges {
		x.set(to[e.U], to[e.V], true)
	}
	return x.answer()
}

func slowDivide(g api.Graph, e int) answer {
	if !in(e, len(g.Edges)) {
		return fault(api.ErrRange)
	}
	x := tableOf(g)
	x.n++
	x.set(g.Edges[e].U, g.Edges[e].V, false)
	x.set(g.Edges[e].U, g.N, true)
	x.set(g.Edges[e].V, g.N, true)
	return x.answer()
}

func slowApex(g api.Graph) answer {
	x := tableOf(g)
	x.n++
	for v := range g.N {
		x.set(v, g.N, true)
	}
	return x.answer()
}

func slowInduced(g api.Graph, list []int) answer {
	for i, v := range list {
		if !in(v, g.N) || slices.Contains(list[:i], v) {
			return fault(api.ErrRange)
		}
	}
	old, x := tableOf(g), empty(len(list))
	for i, v := range list {
		for j, w := range list {
			if old.joined[[2]int{v, w}] {
				x.set(i, j, true)
			}
		}
	}
	return x.answer()
}

func slowBare(g api.Graph) answer {
	var list []int
	for v := range g.N {
		if slices.ContainsFunc(g.Edges, func(e api.Edge) bool { return e.U == v || e.V == v }) {
			list = append(list, v)
		}
	}
	want := slowInduced(g, list)
	want.list = list
	return want
}

// oneEdgeAgrees: all edits of one edge, with numbers right and wrong, and those that take the graph alone.
func oneEdgeAgrees(t *testing.T, g api.Graph) {
	t.Helper()
	for e := -2; e < len(g.Edges)+2; e++ {
		without(g, e).says(t, slowWithout(g, e))
		divide(g, e).says(t, slowDivide(g, e))
	}
	for u := -1; u <= g.N; u++ {
		for v := -1; v <= g.N; v++ {
			with(g, u, v).says(t, slowWith(g, u, v))
		}
	}
	apex(g).says(t, slowApex(g))
	bare(g).says(t, slowBare(g))
}

func TestAllSmallGraphs(t *testing.T) {
	for _, g := range probe.Small() {
		if g.N <= 12 {
			oneEdgeAgrees(t, g)
		}
	}
}

// TestAllListsOfVertices: of all graphs of up to four vertices all lists of a number more than there are, with the numbers next to the vertices'; of those of five all permutations and all parts of them.
func TestAllListsOfVertices(t *testing.T) {
	for n := range 5 {
		lists := probe.Lists(append(probe.Rising(n+1), -1), n+1)
		for _, g := range probe.Graphs(n) {
			for _, list := range lists {
				relabel(g, list...).says(t, slowRelabel(g, list))
				induced(g, list...).says(t, slowInduced(g, list))
			}
		}
	}
	orders := probe.Arranged(probe.Rising(5))
	for _, g := range probe.Graphs(5) {
		for i, list := range orders {
			relabel(g, list...).says(t, slowRelabel(g, list))
			induced(g, list[:i%6]...).says(t, slowInduced(g, list[:i%6]))
		}
	}
}

// TestAllListsOfEdges: all lists of up to four numbers, and all sets of edges, rising and falling.
func TestAllListsOfEdges(t *testing.T) {
	for n := range 5 {
		for _, g := range probe.Graphs(n) {
			m := len(g.Edges)
			for _, list := range probe.Lists(append(probe.Rising(m+1), -1), 4) {
				sub(g, list...).says(t, slowSub(g, list))
			}
			for chosen := range 1 << m {
				var list []int
				for e := range m {
					if chosen>>e&1 == 1 {
						list = append(list, e)
					}
				}
				sub(g, list...).says(t, slowSub(g, list))
				slices.Reverse(list)
				sub(g, list...).says(t, slowSub(g, list))
			}
		}
	}
}

func TestAllPairsOfGraphs(t *testing.T) {
	var all []api.Graph
	for n := range 5 {
		all = append(all, probe.Graphs(n)...)
	}
	for _, a := range all {
		for _, b := range all {
			beside(a, b).says(t, slowBeside(a, b))
		}
	}
}

// thrown: graphs of all densities with a few more vertices.
func thrown(d *probe.Dice, count int) []api.Graph {
	var all []api.Graph
	for range count {
		all = append(all, d.Graph(1+d.Below(25), d.Below(101)), d.Thin(2+d.Below(25), d.Below(10)))
	}
	return all
}

// numbers: a list of numbers from 0 to n - 1, with one outside now and then.
func numbers(d *probe.Dice, n, length int) []int {
	var list []int
	for range length {
		list = append(list, d.Below(max(1, n)))
		if d.Below(60) == 0 {
			list = append(list, outside(n)[d.Below(len(outside(n)))])
		}
	}
	return list
}

func TestThrownGraphs(t *testing.T) {
	d := probe.Dice(1401)
	last := example()
	for _, g := range thrown(&d, 300) {
		m := len(g.Edges)
		for _, e := range []int{d.Below(m + 1), d.Below(m + 1)} {
			without(g, e).says(t, slowWithout(g, e))
			divide(g, e).says(t, slowDivide(g, e))
		}
		for _, p := range d.Pairs(g.N+1, 8) {
			with(g, p[0], p[1]).says(t, slowWith(g, p[0], p[1]))
		}
		keep, few := numbers(&d, m, d.Below(2*m+1)), numbers(&d, g.N, d.Below(3))
		order := probe.Mixed(&d, probe.Rising(g.N))
		part := order[:d.Below(g.N+1)]
		sub(g, keep...).says(t, slowSub(g, keep))
		relabel(g, order...).says(t, slowRelabel(g, order))
		relabel(g, part...).says(t, slowRelabel(g, part))
		induced(g, part...).says(t, slowInduced(g, part))
		induced(g, few...).says(t, slowInduced(g, few))
		beside(g, last).says(t, slowBeside(g, last))
		apex(g).says(t, slowApex(g))
		bare(g).says(t, slowBare(g))
		last = g
	}
}
