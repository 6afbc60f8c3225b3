package edit_test

import (
	"math"
	"slices"
	"testing"

	"tangram/api"
	"tangram/edit"
	"tangram/probe"
	"tangram/simple"
)

// answer: what a call says; list is Bare's alone.
type answer struct {
	g    api.Graph
	list []int
	code api.Errno
}

func graph(n int, ends ...int) answer { return answer{g: probe.OfEnds(n, ends...)} }

func fault(code api.Errno) answer { return answer{code: code} }

func same(a, b answer) bool {
	return a.code == b.code && a.g.N == b.g.N && slices.Equal(a.g.Edges, b.g.Edges) && slices.Equal(a.list, b.list)
}

func (a answer) shown() answer {
	a.g = probe.Shown(a.g)
	a.list = a.list[:min(20, len(a.list))]
	return a
}

// call is one call of the layer with all its arguments.
type call struct {
	what string
	args []any // what is told of it where it answers wrongly
	ask  func() answer
}

// plain makes a call of one that answers no list.
func plain(what string, ask func() (api.Graph, api.Errno), args ...any) call {
	return call{what, args, func() answer {
		g, code := ask()
		return answer{g: g, code: code}
	}}
}

func without(g api.Graph, e int) call {
	return plain("Without", func() (api.Graph, api.Errno) { return edit.Without(g, e) }, probe.Shown(g), e)
}

func with(g api.Graph, u, v int) call {
	return plain("With", func() (api.Graph, api.Errno) { return edit.With(g, api.Edge{U: u, V: v}) }, probe.Shown(g), u, v)
}

func sub(g api.Graph, keep ...int) call {
	return plain("Sub", func() (api.Graph, api.Errno) { return edit.Sub(g, keep) }, probe.Shown(g), few(keep))
}

func beside(a, b api.Graph) call {
	return plain("Beside", func() (api.Graph, api.Errno) { return edit.Beside(a, b) }, probe.Shown(a), probe.Shown(b))
}

func relabel(g api.Graph, to ...int) call {
	return plain("Relabel", func() (api.Graph, api.Errno) { return edit.Relabel(g, to) }, probe.Shown(g), few(to))
}

func divide(g api.Graph, e int) call {
	return plain("Divide", func() (api.Graph, api.Errno) { return edit.Divide(g, e) }, probe.Shown(g), e)
}

func apex(g api.Graph) call {
	return plain("Apex", func() (api.Graph, api.Errno) { return edit.Apex(g) }, probe.Shown(g))
}

func bare(g api.Graph) call {
	return call{"Bare", []any{probe.Shown(g)}, func() answer {
		part, list, code := edit.Bare(g)
		return answer{part, list, code}
	}}
}

func induced(g api.Graph, list ...int) call {
	return plain("Induced", func() (api.Graph, api.Errno) { return edit.Induced(g, list) }, probe.Shown(g), few(list))
}

func few(list []int) []int { return list[:min(20, len(list))] }

// says: the call answers just this, and the graph that it answers is valid.
func (c call) says(t *testing.T, want answer) {
	t.Helper()
	got := c.ask()
	if !same(got, want) {
		t.Fatalf("P14.1: %s%v: %v, want %v", c.what, c.args, got.shown(), want.shown())
	}
	if !simple.Valid(got.g) {
		t.Fatalf("P14.1: %s%v: %v isn't valid", c.what, c.args, got.shown())
	}
}

// gives: the graph that the call answers, and the call answers one.
func (c call) gives(t *testing.T) api.Graph {
	t.Helper()
	got := c.ask()
	if got.code != api.OK || !simple.Valid(got.g) {
		t.Fatalf("P14.1: %s%v: %v", c.what, c.args, got.shown())
	}
	return got.g
}

// example is the chapter's graph.
func example() api.Graph { return probe.OfEnds(4, 0, 1, 0, 2, 1, 2) }

func TestExamples(t *testing.T) {
	g := example()
	without(g, 1).says(t, graph(4, 0, 1, 1, 2))
	without(g, 3).says(t, fault(api.ErrRange))
	with(g, 1, 3).says(t, graph(4, 0, 1, 0, 2, 1, 2, 1, 3))
	with(g, 0, 2).says(t, fault(api.ErrEdge))
	with(g, 3, 1).says(t, fault(api.ErrRange))
	with(g, 0, 4).says(t, fault(api.ErrRange))
	sub(g, 2, 0, 2).says(t, graph(4, 0, 1, 1, 2))
	beside(g, probe.OfEnds(2, 0, 1)).says(t, graph(6, 0, 1, 0, 2, 1, 2, 4, 5))
	relabel(g, 3, 1, 0, 2).says(t, graph(4, 0, 1, 0, 3, 1, 3))
	relabel(g, 0, 1, 1, 2).says(t, fault(api.ErrRange))
	divide(g, 0).says(t, graph(5, 0, 2, 0, 4, 1, 2, 1, 4))
	apex(g).says(t, graph(5, 0, 1, 0, 2, 0, 4, 1, 2, 1, 4, 2, 4, 3, 4))
	bare(g).says(t, answer{g: probe.OfEnds(3, 0, 1, 0, 2, 1, 2), list: []int{0, 1, 2}})
	bare(probe.OfEnds(5, 1, 3)).says(t, answer{g: probe.OfEnds(2, 0, 1), list: []int{1, 3}})
	induced(g, 2, 0).says(t, graph(2, 0, 1))
	induced(g, 2, 2).says(t, fault(api.ErrRange))
}

// TestOneEdge: taken away, put in and divided at each place.
func TestOneEdge(t *testing.T) {
	g := example()
	without(g, 0).says(t, graph(4, 0, 2, 1, 2))
	without(g, 2).says(t, graph(4, 0, 1, 0, 2))
	with(g, 0, 3).says(t, graph(4, 0, 1, 0, 2, 0, 3, 1, 2))
	with(g, 2, 3).says(t, graph(4, 0, 1, 0, 2, 1, 2, 2, 3))
	divide(g, 1).says(t, graph(5, 0, 1, 0, 4, 1, 2, 2, 4))
	divide(g, 2).says(t, graph(5, 0, 1, 0, 2, 1, 4, 2, 4))
	with(probe.OfEnds(4, 1, 2), 0, 1).says(t, graph(4, 0, 1, 1, 2))
	lone := probe.OfEnds(2, 0, 1)
	without(lone, 0).says(t, graph(2))
	divide(lone, 0).says(t, graph(3, 0, 2, 1, 2))
	with(probe.OfEnds(2), 0, 1).says(t, graph(2, 0, 1))
}

// TestLists: of numbers of edges and of vertices: none, all, in any order.
func TestLists(t *testing.T) {
	g := example()
	sub(g).says(t, graph(4))
	sub(g, 2, 1, 0).says(t, answer{g: g})
	sub(g, 1, 1, 1, 1, 1).says(t, graph(4, 0, 2))
	relabel(g, 0, 1, 2, 3).says(t, answer{g: g})
	relabel(g, 3, 2, 1, 0).says(t, graph(4, 1, 2, 1, 3, 2, 3))
	relabel(g, 1, 2, 3, 0).says(t, graph(4, 1, 2, 1, 3, 2, 3))
	relabel(probe.Path(4), 1, 2, 3, 0).says(t, graph(4, 0, 3, 1, 2, 2, 3))
	induced(g).says(t, graph(0))
	induced(g, 3).says(t, graph(1))
	induced(g, 3, 1).says(t, graph(2))
	induced(g, 3, 2, 1, 0).says(t, graph(4, 1, 2, 1, 3, 2, 3))
	induced(g, 1, 3, 2).says(t, graph(3, 0, 2))
	induced(probe.Path(5), 3, 0, 2, 1).says(t, graph(4, 0, 2, 1, 3, 2, 3))
}

// TestBareOnes: graphs without vertices, and without edges.
func TestBareOnes(t *testing.T) {
	nothing, lone := probe.OfEnds(0), probe.OfEnds(1)
	apex(nothing).says(t, graph(1))
	apex(lone).says(t, graph(2, 0, 1))
	apex(probe.OfEnds(3)).says(t, graph(4, 0, 3, 1, 3, 2, 3))
	bare(nothing).says(t, graph(0))
	bare(lone).says(t, graph(0))
	bare(probe.OfEnds(7)).says(t, graph(0))
	beside(nothing, nothing).says(t, graph(0))
	beside(nothing, example()).says(t, answer{g: example()})
	beside(example(), nothing).says(t, answer{g: example()})
	beside(lone, example()).says(t, graph(5, 1, 2, 1, 3, 2, 3))
	beside(example(), lone).says(t, graph(5, 0, 1, 0, 2, 1, 2))
	sub(nothing).says(t, graph(0))
	relabel(nothing).says(t, graph(0))
	relabel(lone, 0).says(t, graph(1))
	induced(nothing).says(t, graph(0))
	induced(lone, 0).says(t, graph(1))
	for _, g := range []api.Graph{nothing, lone, probe.OfEnds(7)} {
		without(g, 0).says(t, fault(api.ErrRange))
		divide(g, 0).says(t, fault(api.ErrRange))
		sub(g, 0).says(t, fault(api.ErrRange))
	}
}

func TestBareNames(t *testing.T) {
	bare(probe.OfEnds(9, 1, 4, 1, 7, 2, 4)).says(t, answer{g: probe.OfEnds(4, 0, 2, 0, 3, 1, 2), list: []int{1, 2, 4, 7}})
	bare(probe.OfEnds(6, 0, 5)).says(t, answer{g: probe.OfEnds(2, 0, 1), list: []int{0, 5}})
	bare(probe.OfEnds(6, 0, 1)).says(t, answer{g: probe.OfEnds(2, 0, 1), list: []int{0, 1}})
	bare(probe.OfEnds(6, 4, 5)).says(t, answer{g: probe.OfEnds(2, 0, 1), list: []int{4, 5}})
}

// outside: numbers that are none of 0 to count - 1.
func outside(count int) []int {
	return []int{-1, -2, -count, count, count + 1, 1 << 32, -1 << 32, math.MinInt64, math.MinInt64 + 1, math.MaxInt64, math.MaxInt64 - 1}
}

// TestNumbersOutside: alone and among right ones, at each place of a list.
func TestNumbersOutside(t *testing.T) {
	for _, g := range []api.Graph{example(), probe.Complete(5), probe.Path(3), probe.OfEnds(9, 3, 5)} {
		edges, vertices := probe.Rising(len(g.Edges)), probe.Rising(g.N)
		for _, e := range outside(len(g.Edges)) {
			without(g, e).says(t, fault(api.ErrRange))
			divide(g, e).says(t, fault(api.ErrRange))
			for i := range len(edges) + 1 {
				sub(g, slices.Insert(slices.Clone(edges), i, e)...).says(t, fault(api.ErrRange))
			}
		}
		for _, v := range outside(g.N) {
			for i := range vertices {
				list := slices.Clone(vertices)
				list[i] = v
				relabel(g, list...).says(t, fault(api.ErrRange))
				induced(g, list...).says(t, fault(api.ErrRange))
				induced(g, list[:i+1]...).says(t, fault(api.ErrRange))
			}
		}
	}
}

// TestEdgesOutside: ends that are no vertices, that are one, and the wrong way round; of an edge that is there, too.
func TestEdgesOutside(t *testing.T) {
	g := example()
	for _, x := range outside(g.N) {
		for v := range g.N {
			with(g, x, v).says(t, fault(api.ErrRange))
			with(g, v, x).says(t, fault(api.ErrRange))
		}
		for _, y := range outside(g.N) {
			with(g, x, y).says(t, fault(api.ErrRange))
		}
	}
	for v := range g.N {
		for u := range v + 1 {
			with(g, v, u).says(t, fault(api.ErrRange))
		}
	}
	with(probe.OfEnds(0), 0, 0).says(t, fault(api.ErrRange))
	with(probe.OfEnds(0), 0, 1).says(t, fault(api.ErrRange))
	with(probe.OfEnds(1), 0, 1).says(t, fault(api.ErrRange))
}

// TestNoPermutation: too short, too long, a vertex twice, each at all places.
func TestNoPermutation(t *testing.T) {
	for _, g := range []api.Graph{example(), probe.Complete(5), probe.OfEnds(1), probe.OfEnds(3)} {
		all := probe.Rising(g.N)
		for i := range all {
			relabel(g, slices.Delete(slices.Clone(all), i, i+1)...).says(t, fault(api.ErrRange))
			relabel(g, all[:i]...).says(t, fault(api.ErrRange))
			for v := range g.N {
				twice := slices.Insert(slices.Clone(all), i, v)
				relabel(g, twice...).says(t, fault(api.ErrRange))
				induced(g, twice...).says(t, fault(api.ErrRange))
				if v != i {
					twice = slices.Clone(all)
					twice[i] = v
					relabel(g, twice...).says(t, fault(api.ErrRange))
					induced(g, twice...).says(t, fault(api.ErrRange))
				}
			}
		}
		relabel(g, append(all, g.N)...).says(t, fault(api.ErrRange))
		relabel(g, append(all, all...)...).says(t, fault(api.ErrRange))
	}
	relabel(probe.OfEnds(0), 0).says(t, fault(api.ErrRange))
	induced(probe.OfEnds(0), 0).says(t, fault(api.ErrRange))
}

// refused: ErrGraph ahead of all else, whatever stands beside the graph, and nothing beside it.
func refused(t *testing.T, g api.Graph) {
	t.Helper()
	want := fault(api.ErrGraph)
	for _, e := range []int{0, -1, len(g.Edges), math.MaxInt64} {
		without(g, e).says(t, want)
		divide(g, e).says(t, want)
		sub(g, e).says(t, want)
		relabel(g, e).says(t, want)
		induced(g, e, e).says(t, want)
	}
	for _, ends := range [][2]int{{0, 1}, {1, 0}, {-1, 1}, {0, math.MaxInt64}} {
		with(g, ends[0], ends[1]).says(t, want)
	}
	for _, list := range [][]int{nil, {0}, {0, 1, 2}, {2, 1, 0}, {0, 0}} {
		sub(g, list...).says(t, want)
		relabel(g, list...).says(t, want)
		induced(g, list...).says(t, want)
	}
	apex(g).says(t, want)
	bare(g).says(t, want)
	beside(g, g).says(t, want)
	for _, other := range []api.Graph{example(), probe.OfEnds(0), probe.With(api.MaxN)} {
		beside(g, other).says(t, want)
		beside(other, g).says(t, want)
	}
}

func TestGraphsThatAreNotValid(t *testing.T) {
	for _, g := range probe.Invalid() {
		refused(t, g)
	}
}

// TestGraphsWithOneFault: the example with one edge changed.
func TestGraphsWithOneFault(t *testing.T) {
	for e := range example().Edges {
		for _, wrong := range []api.Edge{{U: 2, V: 0}, {U: 1, V: 1}, {U: 0, V: 4}, {U: -1, V: 2}, {U: math.MinInt64, V: math.MaxInt64}} {
			g := example()
			g.Edges[e] = wrong
			refused(t, g)
		}
	}
	swapped := example()
	swapped.Edges[0], swapped.Edges[1] = swapped.Edges[1], swapped.Edges[0]
	refused(t, swapped)
}
