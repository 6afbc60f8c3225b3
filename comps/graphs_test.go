package comps_test

import (
	"slices"
	"testing"

	"tangram/api"
	"tangram/comps"
	"tangram/probe"
)

// flooded: the components by going, from each vertex that has no number yet, by edges as far as they lead.
func flooded(g api.Graph) (of []int, count int) {
	near := make([][]int, g.N)
	for _, e := range g.Edges {
		near[e.U] = append(near[e.U], e.V)
		near[e.V] = append(near[e.V], e.U)
	}
	of = slices.Repeat([]int{-1}, g.N)
	for v := range g.N {
		if of[v] >= 0 {
			continue
		}
		of[v] = count
		for todo := []int{v}; len(todo) > 0; {
			last := todo[len(todo)-1]
			todo = todo[:len(todo)-1]
			for _, w := range near[last] {
				if of[w] < 0 {
					of[w] = count
					todo = append(todo, w)
				}
			}
		}
		count++
	}
	return of, count
}

// lonely: how many vertices no edge names.
func lonely(g api.Graph) int {
	named := make([]bool, g.N)
	for _, e := range g.Edges {
		named[e.U], named[e.V] = true, true
	}
	count := 0
	for _, is := range named {
		if !is {
			count++
		}
	}
	return count
}

func components(t *testing.T, g api.Graph) ([]int, int) {
	t.Helper()
	of, count, code := comps.Of(g)
	if code != api.OK {
		t.Fatalf("P5.1: Of(%v): %d", probe.Shown(g), code)
	}
	return of, count
}

// sparse: graphs with few edges, so that they fall into many components.
func sparse() []api.Graph {
	d := probe.Dice(41)
	var all []api.Graph
	for range 200 {
		all = append(all, d.Graph(1+d.Below(40), d.Below(9)))
	}
	return all
}

func TestExamplesOfGraphs(t *testing.T) {
	g := probe.With(6, api.Edge{U: 1, V: 4}, api.Edge{U: 2, V: 4}, api.Edge{U: 3, V: 5})
	if of, count := components(t, g); !slices.Equal(of, []int{0, 1, 1, 2, 1, 2}) || count != 3 {
		t.Errorf("P5.1: Of: %v, %d", of, count)
	}
	if count, code := comps.Isolated(g); count != 1 || code != api.OK {
		t.Errorf("P5.1: Isolated: %d, %d", count, code)
	}
	if of, count := components(t, api.Graph{}); len(of) != 0 || count != 0 {
		t.Errorf("P5.1: Of the empty graph: %v, %d", of, count)
	}
	if count, code := comps.Isolated(api.Graph{}); count != 0 || code != api.OK {
		t.Errorf("P5.1: Isolated of the empty graph: %d, %d", count, code)
	}
}

func TestComponents(t *testing.T) {
	for _, g := range slices.Concat(probe.Small(), sparse(), probe.Great()) {
		want, most := flooded(g)
		if of, count := components(t, g); !slices.Equal(of, want) || count != most {
			t.Fatalf("P5.1: Of(%v): %d components, want %d", probe.Shown(g), count, most)
		}
		if count, code := comps.Isolated(g); count != lonely(g) || code != api.OK {
			t.Fatalf("P5.1: Isolated(%v): %d, %d, want %d", probe.Shown(g), count, code, lonely(g))
		}
	}
}

func TestComponentsOfKnownGraphs(t *testing.T) {
	four := probe.Beside(probe.Cycle(4), probe.With(2), probe.Star(3, 1), probe.Complete(5), probe.With(1))
	for _, c := range []struct {
		g               api.Graph
		count, isolated int
	}{
		{probe.With(3), 3, 3}, {probe.With(1), 1, 1}, {probe.Path(2), 1, 0}, {probe.Path(9), 1, 0}, {probe.Cycle(3), 1, 0},
		{probe.Star(8, 4), 1, 0}, {probe.Complete(7), 1, 0}, {four, 6, 3},
		{probe.With(api.MaxN), api.MaxN, api.MaxN}, {probe.Path(api.MaxN), 1, 0},
		{probe.Beside(probe.With(2), probe.Star(api.MaxN-3, 7), probe.With(1)), 4, 3},
		{probe.Dense(api.MaxEdges), 1, 0}, {probe.Beside(probe.With(1), probe.Dense(api.MaxEdges), probe.With(9)), 11, 10},
	} {
		of, count := components(t, c.g)
		isolated, code := comps.Isolated(c.g)
		if len(of) != c.g.N || count != c.count || isolated != c.isolated || code != api.OK {
			t.Errorf("P5.1: %v: %d components, %d isolated, want %d, %d", probe.Shown(c.g), count, isolated, c.count, c.isolated)
		}
	}
}

// reach: does a path lead from one to the other? The vertices over which it may lead are let in one by one.
func reach(g api.Graph) [][]bool {
	to := make([][]bool, g.N)
	for v := range to {
		to[v] = make([]bool, g.N)
		to[v][v] = true
	}
	for _, e := range g.Edges {
		to[e.U][e.V], to[e.V][e.U] = true, true
	}
	for over := range g.N {
		for u := range g.N {
			for v := range g.N {
				to[u][v] = to[u][v] || to[u][over] && to[over][v]
			}
		}
	}
	return to
}

func TestPaths(t *testing.T) {
	for _, g := range slices.Concat(probe.Small(), sparse()) {
		of, _ := components(t, g)
		to := reach(g)
		for u := range g.N {
			for v := range g.N {
				if (of[u] == of[v]) != to[u][v] {
					t.Fatalf("P5.3: %v: %d and %d have the numbers %d and %d", g, u, v, of[u], of[v])
				}
			}
		}
		for _, e := range g.Edges {
			if of[e.U] != of[e.V] {
				t.Fatalf("P5.3: %v: the ends of %v have the numbers %d and %d", g, e, of[e.U], of[e.V])
			}
		}
	}
}

// more: the graph with one edge more, which it doesn't have.
func more(g api.Graph, e api.Edge) api.Graph {
	at := 0
	for at < len(g.Edges) && (g.Edges[at].U < e.U || g.Edges[at].U == e.U && g.Edges[at].V < e.V) {
		at++
	}
	return api.Graph{N: g.N, Edges: slices.Insert(slices.Clone(g.Edges), at, e)}
}

func TestAnEdgeMore(t *testing.T) {
	for _, g := range slices.Concat(probe.Graphs(4), probe.Graphs(5), sparse()[:40]) {
		of, count := components(t, g)
		for _, e := range probe.Complete(g.N).Edges {
			if slices.Contains(g.Edges, e) {
				continue
			}
			want := count
			if of[e.U] != of[e.V] {
				want--
			}
			if _, got := components(t, more(g, e)); got != want {
				t.Fatalf("P5.3: %v has %d components, with %v %d", g, count, e, got)
			}
		}
	}
}

// TestSetsAndGraphs: joining the ends of all edges parts the vertices into the components.
func TestSetsAndGraphs(t *testing.T) {
	d := probe.Dice(51)
	for _, g := range sparse() {
		of, count := components(t, g)
		s, _ := joined(t, g.N, d.Disorder(g))
		if s.Count() != count || len(s.Groups()) != count {
			t.Fatalf("P5.2: %v: %d components, %d sets", g, count, s.Count())
		}
		for k, group := range s.Groups() {
			for _, v := range group {
				if of[v] != k {
					t.Fatalf("P5.2: %v: %d is in the component %d and in the set %d", g, v, of[v], k)
				}
			}
		}
	}
}

func TestGraphsThatAreNotValid(t *testing.T) {
	for _, g := range append(probe.Invalid(), probe.With(2, api.Edge{U: 1, V: 0})) {
		if of, count, code := comps.Of(g); len(of) != 0 || count != 0 || code != api.ErrGraph {
			t.Errorf("P5.1: Of(%v): %d numbers, %d, %d", probe.Shown(g), len(of), count, code)
		}
		if count, code := comps.Isolated(g); count != 0 || code != api.ErrGraph {
			t.Errorf("P5.1: Isolated(%v): %d, %d", probe.Shown(g), count, code)
		}
	}
}

func TestComponentsAreNewMemory(t *testing.T) {
	for _, g := range append(sparse(), probe.Small()[:4]...) {
		want, count := flooded(g)
		first, _ := components(t, g)
		kept, _ := components(t, g)
		spoil(first)
		if !slices.Equal(kept, want) {
			t.Fatalf("P5.4: R5: %v: another answer of Of is changed: %v, want %v", g, kept, want)
		}
		if again, most := components(t, g); !slices.Equal(again, want) || most != count {
			t.Fatalf("P5.4: R8: %v: Of again: %v, %d, want %v, %d", g, again, most, want, count)
		}
	}
}

func TestGraphIsNotChanged(t *testing.T) {
	edges := []api.Edge{{U: 0, V: 1}, {U: 1, V: 3}, {U: 2, V: 3}, {U: 9, V: 1}, {U: 0, V: 0}}
	before := slices.Clone(edges)
	for to := range len(edges) + 1 {
		g := probe.With(5, edges[:to]...)
		of, _, _ := comps.Of(g)
		comps.Isolated(g)
		spoil(of)
		if !slices.Equal(edges, before) {
			t.Fatalf("R5: the edges have been changed: %v", edges)
		}
	}
}

func TestGraphIsNotKept(t *testing.T) {
	edges := []api.Edge{{U: 0, V: 1}, {U: 2, V: 3}}
	of, count := components(t, probe.With(4, edges...))
	edges[0], edges[1] = api.Edge{U: 1, V: 2}, api.Edge{U: 1, V: 3}
	if !slices.Equal(of, []int{0, 0, 1, 1}) || count != 2 {
		t.Errorf("R5: Of an earlier graph: %v, %d", of, count)
	}
	if of, count := components(t, probe.With(4, edges...)); !slices.Equal(of, []int{0, 1, 1, 1}) || count != 2 {
		t.Errorf("R8: Of the same list with other edges: %v, %d", of, count)
	}
}
