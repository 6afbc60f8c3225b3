package dfs_test

import (
	"math"
	"runtime/debug"
	"slices"
	"testing"

	"tangram/api"
	"tangram/comps"
	"tangram/dfs"
	"tangram/probe"
)

func walked(t *testing.T, g api.Graph) api.Forest {
	t.Helper()
	f, code := dfs.Walk(g)
	if code != api.OK {
		t.Fatalf("P7.1: Walk(%v): %d", probe.Shown(g), code)
	}
	return f
}

// example is the chapter's.
func example() (api.Graph, api.Forest) {
	g := probe.With(5, api.Edge{U: 0, V: 1}, api.Edge{U: 0, V: 2}, api.Edge{U: 1, V: 2}, api.Edge{U: 1, V: 3})
	return g, api.Forest{Parent: []int{-1, 0, 4, 6, -1}, Height: []int{0, 1, 2, 2, 0}, Order: []int{0, 1, 2, 3, 4}, Orient: []int{0, 3, 4, 6}}
}

// fromTwo is the chapter's other forest of the example.
func fromTwo() api.Forest {
	return api.Forest{Parent: []int{3, 0, -1, 6, -1}, Height: []int{1, 2, 0, 3, 0}, Order: []int{2, 0, 1, 3, 4}, Orient: []int{0, 3, 4, 6}}
}

func TestExamples(t *testing.T) {
	g, want := example()
	f := walked(t, g)
	if !probe.SameForest(f, want) {
		t.Errorf("P7.1: Walk: %+v, want %+v", f, want)
	}
	for e, want := range map[int]bool{1: true, 0: false, 2: false, 3: false, -1: false, 4: false} {
		if got := dfs.Back(f, e); got != want {
			t.Errorf("P7.2: Back(%d): %v", e, got)
		}
	}
	for p, want := range map[[2]int]bool{{0, 3}: true, {3, 3}: true, {3, 0}: false, {2, 3}: false, {4, 0}: false} {
		if got := dfs.Above(g, f, p[0], p[1]); got != want {
			t.Errorf("P7.2: Above(%d, %d): %v", p[0], p[1], got)
		}
	}
	if !dfs.Valid(g, f) || !dfs.Valid(g, fromTwo()) {
		t.Error("P7.2: Valid of the forests with the roots 0 and 2: false")
	}
	other := fromTwo()
	other.Order = []int{2, 0, 3, 1, 4}
	if dfs.Valid(g, other) {
		t.Error("P7.2: Valid with 3 ahead of its parent 1: true")
	}
	other = fromTwo()
	other.Orient = []int{0, 3, 5, 6}
	if dfs.Valid(g, other) {
		t.Error("P7.2: Valid with {1 2} walked from 2 to 1: true")
	}
}

// TestKnownWalks: walks that are written out, by hand.
func TestKnownWalks(t *testing.T) {
	for _, c := range []struct {
		name string
		g    api.Graph
		want api.Forest
	}{
		{"no vertices", probe.With(0), api.Forest{}},
		{"one vertex", probe.With(1), api.Forest{Parent: []int{-1}, Height: []int{0}, Order: []int{0}}},
		{"no edges", probe.With(3), api.Forest{Parent: []int{-1, -1, -1}, Height: []int{0, 0, 0}, Order: []int{0, 1, 2}}},
		{"one edge", probe.Path(2), api.Forest{Parent: []int{-1, 0}, Height: []int{0, 1}, Order: []int{0, 1}, Orient: []int{0}}},
		{"a path", probe.Path(4), api.Forest{Parent: []int{-1, 0, 2, 4}, Height: []int{0, 1, 2, 3}, Order: []int{0, 1, 2, 3}, Orient: []int{0, 2, 4}}},
		{"a cycle", probe.Cycle(4), api.Forest{Parent: []int{-1, 0, 4, 6}, Height: []int{0, 1, 2, 3}, Order: []int{0, 1, 2, 3}, Orient: []int{0, 3, 4, 6}}},
		{"a star from its middle", probe.Star(4, 0), api.Forest{Parent: []int{-1, 0, 2, 4}, Height: []int{0, 1, 1, 1}, Order: []int{0, 1, 2, 3}, Orient: []int{0, 2, 4}}},
		{"a star from a tip", probe.Star(4, 3), api.Forest{Parent: []int{-1, 3, 5, 0}, Height: []int{0, 2, 2, 1}, Order: []int{0, 3, 1, 2}, Orient: []int{0, 3, 5}}},
		{"a full graph", probe.Complete(4), api.Forest{Parent: []int{-1, 0, 6, 10}, Height: []int{0, 1, 2, 3}, Order: []int{0, 1, 2, 3}, Orient: []int{0, 3, 5, 6, 9, 10}}},
		{"components one in the other", probe.With(5, api.Edge{U: 0, V: 3}, api.Edge{U: 1, V: 4}), api.Forest{Parent: []int{-1, -1, -1, 0, 2}, Height: []int{0, 0, 0, 1, 1}, Order: []int{0, 3, 1, 4, 2}, Orient: []int{0, 2}}},
		{"to a higher vertex first", probe.With(5, api.Edge{U: 0, V: 3}, api.Edge{U: 0, V: 4}, api.Edge{U: 1, V: 2}, api.Edge{U: 1, V: 4}, api.Edge{U: 2, V: 4}), api.Forest{Parent: []int{-1, 7, 4, 0, 2}, Height: []int{0, 2, 3, 1, 1}, Order: []int{0, 3, 4, 1, 2}, Orient: []int{0, 2, 4, 7, 8}}},
		{"back by three steps, then on", probe.With(5, api.Edge{U: 0, V: 2}, api.Edge{U: 0, V: 4}, api.Edge{U: 1, V: 2}, api.Edge{U: 1, V: 3}, api.Edge{U: 1, V: 4}), api.Forest{Parent: []int{-1, 5, 0, 6, 8}, Height: []int{0, 2, 1, 3, 3}, Order: []int{0, 2, 1, 3, 4}, Orient: []int{0, 3, 5, 6, 8}}},
	} {
		if f := walked(t, c.g); !probe.SameForest(f, c.want) {
			t.Errorf("P7.1: Walk of %s: %+v, want %+v", c.name, f, c.want)
		}
	}
}

// slowWalk: the walk in the chapter's words.
func slowWalk(g api.Graph) api.Forest {
	return probe.Walked(g, probe.Rising(g.N), probe.Leaving(g))
}

// many: graphs in which ways up are long, ways branch, and edges lead back by few steps and by many.
func many() []api.Graph {
	all := probe.Small()
	d := probe.Dice(7)
	for range 200 {
		n := 20 + d.Below(60)
		all = append(all, d.Graph(n, d.Below(9)))
	}
	return all
}

func TestWalkBySlowAnswer(t *testing.T) {
	for _, g := range many() {
		want := slowWalk(g)
		f := walked(t, g)
		if !probe.SameForest(f, want) {
			t.Fatalf("P7.1: Walk(%v): %+v, want %+v", g, f, want)
		}
		if faults := broken(g, f); len(faults) != 0 {
			t.Fatalf("P7.1: Walk(%v): %+v breaks the conditions %v", g, f, faults)
		}
		if !dfs.Valid(g, f) {
			t.Fatalf("P7.1: Walk(%v): %+v isn't valid", g, f)
		}
	}
}

func TestGreatGraphs(t *testing.T) {
	for _, g := range probe.Great() {
		want := slowWalk(g)
		f := walked(t, g)
		if !probe.SameForest(f, want) {
			t.Errorf("P7.1: Walk(%v)", probe.Shown(g))
		}
		if !dfs.Valid(g, f) {
			t.Errorf("P7.2: Walk(%v) isn't valid", probe.Shown(g))
		}
		if len(g.Edges) == 0 {
			continue
		}
		last := len(g.Edges) - 1
		f.Orient[last] ^= 1
		if dfs.Valid(g, f) {
			t.Errorf("P7.2: %v is valid with its last edge turned", probe.Shown(g))
		}
	}
}

// crooked: a path of n vertices, n even, on which 0 stands at one end, and then by turns the greatest and the least that are left.
func crooked(n int) api.Graph {
	g := api.Graph{N: n}
	for u := range n / 2 {
		g.Edges = append(g.Edges, api.Edge{U: u, V: n - 1 - u})
		if u > 0 {
			g.Edges = append(g.Edges, api.Edge{U: u, V: n - u})
		}
	}
	return g
}

// TestNothingRecurses: on so small a stack calls that went as deep as a path is long would end the program.
func TestNothingRecurses(t *testing.T) {
	const n = api.MaxN
	graphs := []api.Graph{probe.Path(n), probe.Cycle(n), crooked(n)}
	defer debug.SetMaxStack(debug.SetMaxStack(1 << 20))
	for _, g := range graphs {
		f := walked(t, g)
		end := f.Order[n-1]
		if f.Height[end] != n-1 || f.Order[0] != 0 {
			t.Errorf("P7.1: %v: the path's end %d has the height %d", probe.Shown(g), end, f.Height[end])
		}
		if !dfs.Valid(g, f) || !dfs.Above(g, f, 0, end) || dfs.Above(g, f, end, 0) || !dfs.Above(g, f, f.Order[n-2], end) {
			t.Errorf("P7.2: %v: Valid %v, Above(0, %d) %v", probe.Shown(g), dfs.Valid(g, f), end, dfs.Above(g, f, 0, end))
		}
		if dfs.Back(f, len(g.Edges)-1) || dfs.Back(f, 1) != (len(g.Edges) == n) {
			t.Errorf("P7.2: %v: Back", probe.Shown(g))
		}
	}
}

func TestGraphsThatAreNotValid(t *testing.T) {
	_, f := example()
	for _, g := range append(probe.Invalid(), probe.With(2, api.Edge{U: 1, V: 0})) {
		if none, code := dfs.Walk(g); code != api.ErrGraph || !probe.SameForest(none, api.Forest{}) {
			t.Errorf("R2: R3: Walk(%v): %+v, %d", probe.Shown(g), none, code)
		}
		zeros := api.Forest{Orient: make([]int, len(g.Edges))}
		if g.N >= 0 && g.N <= api.MaxN+1 {
			zeros.Parent, zeros.Height, zeros.Order = make([]int, g.N), make([]int, g.N), make([]int, g.N)
		}
		for _, forest := range []api.Forest{f, {}, zeros} {
			if dfs.Valid(g, forest) || dfs.Above(g, forest, 0, 0) || dfs.Above(g, forest, 0, 1) {
				t.Errorf("R2: Valid or Above of %v: true", probe.Shown(g))
			}
		}
	}
}

// TestForestsFitButGraphDoesNot: what fails is the graph alone: with its edges in order, the same forest is valid.
func TestForestsFitButGraphDoesNot(t *testing.T) {
	f := api.Forest{Parent: []int{-1, 2, 0}, Height: []int{0, 1, 1}, Order: []int{0, 1, 2}, Orient: []int{0, 2}}
	for _, g := range []api.Graph{
		probe.With(3, api.Edge{U: 0, V: 2}, api.Edge{U: 0, V: 1}),
		probe.With(3, api.Edge{U: 0, V: 2}, api.Edge{U: 1, V: 0}),
	} {
		if dfs.Valid(g, f) || dfs.Above(g, f, 0, 1) || dfs.Above(g, f, 0, 0) {
			t.Errorf("R2: %v: Valid %v, Above %v", g, dfs.Valid(g, f), dfs.Above(g, f, 0, 1))
		}
	}
	f.Parent = []int{-1, 0, 2}
	g := probe.With(3, api.Edge{U: 0, V: 1}, api.Edge{U: 0, V: 2})
	if !dfs.Valid(g, f) || !dfs.Above(g, f, 0, 1) {
		t.Errorf("P7.2: %v: Valid %v, Above %v", g, dfs.Valid(g, f), dfs.Above(g, f, 0, 1))
	}
}

// TestTrees: P7.3, of the walk and of other forests.
func TestTrees(t *testing.T) {
	d := probe.Dice(73)
	for _, g := range many() {
		of, count, _ := comps.Of(g)
		for _, f := range []api.Forest{walked(t, g), d.Forest(g)} {
			roots, spare := make([]int, count), make([]int, count)
			for v, k := range of {
				spare[k]++
				if f.Parent[v] == -1 {
					roots[k]++
				}
			}
			for e := range g.Edges {
				if !dfs.Back(f, e) {
					spare[of[g.Edges[e].U]]--
				}
			}
			for k := range count {
				if roots[k] != 1 || spare[k] != 1 {
					t.Fatalf("P7.3: %v: the component %d has %d roots and %d vertices more than tree edges", g, k, roots[k], spare[k])
				}
			}
		}
	}
}

func TestEndsOfEdges(t *testing.T) {
	d := probe.Dice(74)
	for _, g := range many() {
		for _, f := range []api.Forest{walked(t, g), d.Forest(g)} {
			for i, e := range g.Edges {
				from, to := probe.Ends(g, f.Orient[i])
				if !dfs.Above(g, f, e.U, e.V) && !dfs.Above(g, f, e.V, e.U) {
					t.Fatalf("P7.3: %v: none of the ends of %v is above the other", g, e)
				}
				if down := dfs.Above(g, f, from, to); down == dfs.Back(f, i) {
					t.Fatalf("P7.3: %v: %v is walked from %d to %d; down: %v, back: %v", g, e, from, to, down, dfs.Back(f, i))
				}
			}
		}
	}
}

func TestAbove(t *testing.T) {
	d := probe.Dice(75)
	for _, g := range probe.Small() {
		if g.N > 12 {
			continue
		}
		ask := []int{-1, -2, g.N, g.N + 1, api.MaxN, math.MinInt64, math.MinInt64 + 1, math.MaxInt64}
		ask = append(ask, probe.Rising(g.N)...)
		for _, f := range []api.Forest{walked(t, g), d.Forest(g)} {
			for _, u := range ask {
				for _, v := range ask {
					want := u >= 0 && u < g.N && v >= 0 && v < g.N && climbs(g, f, u, v)
					if got := dfs.Above(g, f, u, v); got != want {
						t.Fatalf("P7.2: %v, %+v: Above(%d, %d): %v", g, f, u, v, got)
					}
				}
			}
		}
	}
}

// TestAboveWithoutForest: of a forest that isn't valid no vertex is above another, nor itself.
func TestAboveWithoutForest(t *testing.T) {
	for _, c := range faulty() {
		for u := -1; u <= c.g.N; u++ {
			for v := -1; v <= c.g.N; v++ {
				if dfs.Above(c.g, c.f, u, v) {
					t.Fatalf("P7.2: with %s: Above(%d, %d): true", c.name, u, v)
				}
			}
		}
	}
}

// slowBack: in the chapter's words.
func slowBack(f api.Forest, e int) bool {
	if e < 0 || e >= len(f.Orient) {
		return false
	}
	for _, h := range f.Parent {
		if h == f.Orient[e] {
			return false
		}
	}
	return true
}

func TestBack(t *testing.T) {
	odd := []int{math.MinInt64, -2, -1, 0, 1, 2, 3, 7, math.MaxInt64}
	d := probe.Dice(76)
	forests := []api.Forest{
		{}, {Parent: []int{0}}, {Orient: []int{0}}, {Orient: []int{-1}}, {Orient: []int{-1, 0}, Parent: []int{-1}}, {Order: []int{0, 1}, Height: []int{0, 1}},
		{Orient: []int{5, 5, 5, 7}, Parent: []int{7, 7}}, {Orient: odd, Parent: odd}, {Orient: odd}, {Orient: odd, Parent: odd[:4]}, {Orient: odd, Parent: odd[5:]},
	}
	for range 300 {
		var f api.Forest
		for range d.Below(6) {
			f.Parent = append(f.Parent, odd[d.Below(len(odd))])
		}
		for range d.Below(6) {
			f.Orient = append(f.Orient, odd[d.Below(len(odd))])
		}
		forests = append(forests, f, d.Forest(d.Graph(d.Below(9), 50)))
	}
	for _, f := range forests {
		for _, e := range append(probe.Rising(len(f.Orient)+2), -1, -2, len(f.Parent), api.MaxEdges, math.MinInt64, math.MaxInt64) {
			if got := dfs.Back(f, e); got != slowBack(f, e) {
				t.Fatalf("P7.2: %+v: Back(%d): %v", f, e, got)
			}
		}
	}
}

// TestBackAtTheEnd: the last edge, and the one behind it.
func TestBackAtTheEnd(t *testing.T) {
	g := probe.With(3, api.Edge{U: 0, V: 1}, api.Edge{U: 0, V: 2}, api.Edge{U: 1, V: 2})
	f := probe.Walked(g, []int{1, 0, 2}, probe.Leaving(g)) // 1, 0, 2, and back from 2 to 1
	if got := []bool{dfs.Back(f, 0), dfs.Back(f, 1), dfs.Back(f, 2), dfs.Back(f, 3)}; !slices.Equal(got, []bool{false, false, true, false}) {
		t.Errorf("P7.2: %+v: Back: %v", f, got)
	}
}
