package blocks_test

import (
	"slices"
	"testing"

	"tangram/api"
	"tangram/comps"
	"tangram/dfs"
	"tangram/probe"
)

// cycles: the edges of each cycle of a graph of few vertices; all paths from a cycle's least vertex on are gone, so that each is met in both directions.
func cycles(g api.Graph) [][]int {
	out := probe.Leaving(g)
	var all [][]int
	var vertices, edges []int
	var extend func(v int)
	extend = func(v int) {
		vertices = append(vertices, v)
		for _, h := range out[v] {
			_, w := probe.Ends(g, h)
			edges = append(edges, h/2)
			switch {
			case w == vertices[0] && len(edges) >= 3:
				all = append(all, slices.Clone(edges))
			case w > vertices[0] && !slices.Contains(vertices, w):
				extend(w)
			}
			edges = edges[:len(edges)-1]
		}
		vertices = vertices[:len(vertices)-1]
	}
	for v := range g.N {
		extend(v)
	}
	return all
}

// byCycles: which edges are in one block, in the chapter's words: the same, or some cycle goes by both.
func byCycles(g api.Graph) func(e, f int) bool {
	together := make(map[[2]int]bool)
	for _, cycle := range cycles(g) {
		for _, e := range cycle {
			for _, f := range cycle {
				together[[2]int{e, f}] = true
			}
		}
	}
	return func(e, f int) bool { return e == f || together[[2]int{e, f}] }
}

// without: the graph's edges but those that end at v.
func without(g api.Graph, v int) api.Graph {
	return api.Graph{N: g.N, Edges: slices.DeleteFunc(slices.Clone(g.Edges), func(e api.Edge) bool { return e.U == v || e.V == v })}
}

// byWaysRound: the same for graphs that have too many cycles. By two edges that meet at v a cycle goes, if a way leads from one's other end to the other's without v; and being in one block is an equivalence.
func byWaysRound(g api.Graph) func(e, f int) bool {
	sets, _ := comps.New(len(g.Edges))
	for v, halves := range probe.Leaving(g) {
		component, _, _ := comps.Of(without(g, v))
		first := make(map[int]int)
		for _, h := range halves {
			_, w := probe.Ends(g, h)
			if e, seen := first[component[w]]; seen {
				sets.Join(e, h/2)
			} else {
				first[component[w]] = h / 2
			}
		}
	}
	return sets.Same
}

// slow: the answers in the chapter's words, of which edges are in one block.
func slow(g api.Graph, inOne func(e, f int) bool) answers {
	var want answers
	var parts [][]int
	for e := range g.Edges {
		k := slices.IndexFunc(parts, func(part []int) bool { return inOne(part[0], e) })
		if k == -1 {
			k = len(parts)
			parts = append(parts, nil)
		}
		parts[k] = append(parts[k], e)
		want.of = append(want.of, k)
	}
	want.count = len(parts)
	blocksOf := make([]int, g.N)
	for _, part := range parts {
		if len(part) == 1 {
			want.bridges = append(want.bridges, part[0])
		}
		x := slowPiece(g, part)
		for _, v := range x.names {
			blocksOf[v]++
		}
		want.blocks = append(want.blocks, x)
	}
	slices.Sort(want.bridges)
	for v, count := range blocksOf {
		if count > 1 {
			want.cuts = append(want.cuts, v)
		}
	}
	return want
}

// slowPiece: edges as a graph of their own.
func slowPiece(g api.Graph, part []int) piece {
	var x piece
	for _, e := range part {
		x.names = append(x.names, g.Edges[e].U, g.Edges[e].V)
	}
	slices.Sort(x.names)
	x.names = slices.Compact(x.names)
	x.g.N = len(x.names)
	for _, e := range part {
		x.g.Edges = append(x.g.Edges, api.Edge{U: slices.Index(x.names, g.Edges[e].U), V: slices.Index(x.names, g.Edges[e].V)})
	}
	return x
}

// TestAllSmallGraphs: all graphs of up to six vertices, by the cycles that they have.
func TestAllSmallGraphs(t *testing.T) {
	for n := range 7 {
		for _, g := range probe.Graphs(n) {
			says(t, g, slow(g, byCycles(g)))
		}
	}
}

func TestThrownGraphsByCycles(t *testing.T) {
	d := probe.Dice(91)
	for range 300 {
		g := d.Graph(7+d.Below(2), 15+d.Below(50))
		says(t, g, slow(g, byCycles(g)))
	}
	for range 300 {
		g := d.Thin(8+d.Below(10), d.Below(6))
		says(t, g, slow(g, byCycles(g)))
	}
}

// TestTheSlowAnswers agree with each other.
func TestTheSlowAnswers(t *testing.T) {
	d := probe.Dice(92)
	for range 300 {
		g := d.Thin(5+d.Below(10), d.Below(7))
		cycles, ways := byCycles(g), byWaysRound(g)
		for e := range g.Edges {
			for f := range g.Edges {
				if cycles(e, f) != ways(e, f) {
					t.Fatalf("the test itself: %v: %d and %d in one block: %v by cycles, %v by ways round", g, e, f, cycles(e, f), ways(e, f))
				}
			}
		}
	}
}

// many: graphs of more vertices, with few edges and with many.
func many() []api.Graph {
	d := probe.Dice(93)
	graphs := probe.Small()
	for range 200 {
		graphs = append(graphs, d.Thin(20+d.Below(60), d.Below(25)), d.Graph(10+d.Below(50), 1+d.Below(8)))
	}
	return graphs
}

func TestBySlowAnswer(t *testing.T) {
	for _, g := range many() {
		says(t, g, slow(g, byWaysRound(g)))
	}
}

// grown: a graph put together of so many blocks, each hung on a vertex of what is there or begun apart from it, then renamed; by edge, which of the blocks it comes from.
func grown(d *probe.Dice, count int) (api.Graph, []int) {
	n := 1
	var pairs [][2]int
	var from []int
	for k := range count {
		part := thrownBlock(d)
		hook := d.Below(n)
		if d.Below(20) == 0 {
			hook = n
			n++
		}
		names := []int{hook}
		for range part.N - 1 {
			names = append(names, n)
			n++
		}
		names = probe.Mixed(d, names)
		for _, e := range part.Edges {
			pairs = append(pairs, [2]int{names[e.U], names[e.V]})
			from = append(from, k)
		}
	}
	return renamed(n, pairs, from, probe.Mixed(d, probe.Rising(n)))
}

func thrownBlock(d *probe.Dice) api.Graph {
	switch d.Below(4) {
	case 0:
		return probe.Path(2)
	case 1:
		return probe.Complete(3 + d.Below(3))
	case 2:
		return probe.Cycle(3 + d.Below(6))
	default:
		g := probe.Cycle(4 + d.Below(6))
		g.Edges = slices.Insert(g.Edges, 1, api.Edge{U: 0, V: 2}) // a chord, ahead of {0 n-1}
		return g
	}
}

// renamed: the graph of the pairs under other names, and by edge what was told of its pair.
func renamed(n int, pairs [][2]int, told []int, names []int) (api.Graph, []int) {
	by := make(map[api.Edge]int)
	for i, p := range pairs {
		p = [2]int{names[p[0]], names[p[1]]}
		pairs[i] = p
		by[api.Edge{U: min(p[0], p[1]), V: max(p[0], p[1])}] = told[i]
	}
	g := probe.OfPairs(n, pairs)
	list := make([]int, len(g.Edges))
	for e, ends := range g.Edges {
		list[e] = by[ends]
	}
	return g, list
}

// numbered: the blocks' numbers in the order of their least edges, of any other numbers.
func numbered(from []int) []int {
	number := make(map[int]int)
	list := make([]int, len(from))
	for e, k := range from {
		if _, seen := number[k]; !seen {
			number[k] = len(number)
		}
		list[e] = number[k]
	}
	return list
}

// TestGrownGraphs: what a graph was put together of it falls into.
func TestGrownGraphs(t *testing.T) {
	d := probe.Dice(94)
	for range 300 {
		g, from := grown(&d, 1+d.Below(25))
		says(t, g, slow(g, func(e, f int) bool { return from[e] == from[f] }))
		if list, _ := of(t, g); !slices.Equal(list, numbered(from)) {
			t.Fatalf("P9.1: Of(%v): %v, want %v", g, list, numbered(from))
		}
	}
}

// kinds counts what the graphs have, so that the tests can tell that they have met all of it.
type kinds struct {
	rootCuts, otherCuts, otherRoots, bridges, mixed, back int
}

func (c *kinds) count(g api.Graph) {
	x := slow(g, byWaysRound(g))
	f, _ := dfs.Walk(g)
	for v := range g.N {
		cut := slices.Contains(x.cuts, v)
		switch {
		case cut && f.Parent[v] == -1:
			c.rootCuts++
		case cut:
			c.otherCuts++
		case f.Parent[v] == -1:
			c.otherRoots++
		}
	}
	for e := range g.Edges {
		if dfs.Back(f, e) {
			c.back++
		}
		if e > 0 && x.of[e] < x.of[e-1] {
			c.mixed++
		}
	}
	c.bridges += len(x.bridges)
}

// TestWhatIsMet: the graphs above have cut vertices that are a walk's root and such as aren't, roots that aren't cut vertices, bridges, blocks whose edges stand among those of others.
func TestWhatIsMet(t *testing.T) {
	var c kinds
	for _, g := range many() {
		c.count(g)
	}
	for name, count := range map[string]int{"cut vertices that are roots": c.rootCuts, "that aren't": c.otherCuts, "roots that aren't": c.otherRoots, "bridges": c.bridges, "mixed": c.mixed, "back": c.back} {
		if count < 200 {
			t.Errorf("the test itself: %s: only %d", name, count)
		}
	}
}
