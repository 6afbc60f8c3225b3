package kura_test

import (
	"slices"
	"testing"

	"tangram/api"
	"tangram/kura"
	"tangram/lr"
	"tangram/probe"
)

// covers: P15.1 of a graph of any size: the lists are chains as they are written, each edge lies on just one, and they stand in the order of their least edges.
func covers(t *testing.T, g api.Graph) {
	t.Helper()
	number := make(map[api.Edge]int, len(g.Edges))
	for e, ends := range g.Edges {
		number[ends] = e
	}
	degree := degrees(g)
	met := make([]int, len(g.Edges))
	last := -1
	for _, list := range chains(t, g) {
		if len(list) < 2 || !asWritten(degree, list) {
			t.Fatalf("P15.1: Chains(%v): %v isn't a chain as it is written", probe.Shown(g), fewLists([][]int{list}))
		}
		least := len(g.Edges)
		for i, v := range list[1:] {
			e, there := number[api.Edge{U: min(v, list[i]), V: max(v, list[i])}]
			if !there {
				t.Fatalf("P15.1: Chains(%v): there is no edge from %d to %d", probe.Shown(g), list[i], v)
			}
			met[e]++
			least = min(least, e)
		}
		if least <= last {
			t.Fatalf("P15.1: Chains(%v): a chain with the edge %d stands behind one whose least is %d", probe.Shown(g), least, last)
		}
		last = least
	}
	if i := slices.IndexFunc(met, func(times int) bool { return times != 1 }); i != -1 {
		t.Fatalf("P15.1: Chains(%v): the edge %d lies on %d chains", probe.Shown(g), i, met[i])
	}
}

func TestEachEdgeOnOneChain(t *testing.T) {
	d := probe.Dice(1503)
	for _, x := range probe.KnownGraphs() {
		covers(t, x.Graph)
		covers(t, d.Renamed(probe.DividedAll(x.Graph, 1+d.Below(3))))
	}
	for _, g := range probe.Small() {
		covers(t, g)
	}
	for range 200 {
		covers(t, d.Thin(2+d.Below(400), d.Below(40)))
		covers(t, paired(&d, 1+d.Below(40), 4))
	}
}

// shape: a subdivision as it was made: by the places of two branch vertices the path between them; before names are changed about, the branch vertices are 0 to 4 or 0 to 5.
type shape struct {
	kind  api.KuraKind
	graph api.Graph
	names []int // of the vertices by which it was made
	paths map[[2]int][]int
}

// made: K5 or K3,3 with at most so many vertices on each edge, a few isolated ones, and thrown names.
func made(d *probe.Dice, kind api.KuraKind, most int) shape {
	base := k5()
	if kind == api.K33 {
		base = k33()
	}
	n := base.N
	x := shape{kind: kind, paths: make(map[[2]int][]int)}
	for _, e := range base.Edges {
		path := []int{e.U}
		for range d.Below(most + 1) {
			path = append(path, n)
			n++
		}
		x.paths[[2]int{e.U, e.V}] = append(path, e.V)
	}
	n += d.Below(4)
	x.names = probe.Mixed(d, probe.Rising(n))
	var pairs [][2]int
	for _, path := range x.paths {
		for i, v := range path[1:] {
			pairs = append(pairs, [2]int{x.names[path[i]], x.names[v]})
		}
	}
	x.graph = probe.OfPairs(n, pairs)
	return x
}

// byName: branch vertices as they were made, by their names rising.
func (x shape) byName(list ...int) []int {
	slices.SortFunc(list, func(a, b int) int { return x.names[a] - x.names[b] })
	return list
}

func (x shape) path(u, v int) []int {
	path, straight := x.paths[[2]int{u, v}]
	if !straight {
		path = slices.Clone(x.paths[[2]int{v, u}])
		slices.Reverse(path)
	}
	return x.named(path)
}

func (x shape) named(list []int) []int {
	var named []int
	for _, v := range list {
		named = append(named, x.names[v])
	}
	return named
}

// told: the Kura that is to be answered.
func (x shape) told() api.Kura {
	if x.kind == api.K5 {
		branch := x.byName(0, 1, 2, 3, 4)
		return x.along(branch, func(i int) []int { return branch[i+1:] })
	}
	near, far := x.byName(0, 1, 2), x.byName(3, 4, 5)
	if x.names[far[0]] < x.names[near[0]] {
		near, far = far, near
	}
	return x.along(slices.Concat(near, far), func(i int) []int {
		if i < 3 {
			return far
		}
		return nil
	})
}

// along: from each branch vertex, by its place, the paths to others.
func (x shape) along(branch []int, others func(i int) []int) api.Kura {
	k := api.Kura{Kind: x.kind, Branch: x.named(branch)}
	for i, u := range branch {
		for _, v := range others(i) {
			k.Paths = append(k.Paths, x.path(u, v))
		}
	}
	return k
}

// TestMadeSubdivisions: P15.2: what was put together is told again.
func TestMadeSubdivisions(t *testing.T) {
	d := probe.Dice(1504)
	for round := range 2000 {
		for _, kind := range []api.KuraKind{api.K5, api.K33} {
			x := made(&d, kind, round%7)
			recognises(t, x.graph, x.told())
		}
	}
}

func planar(t *testing.T, g api.Graph) bool {
	t.Helper()
	yes, code := lr.Planar(g)
	if code != api.OK {
		t.Fatalf("lr.Planar(%v): %d", probe.Shown(g), code)
	}
	return yes
}

// smallest: it isn't planar, and without any one of its edges it is.
func smallest(t *testing.T, g api.Graph) bool {
	t.Helper()
	if planar(t, g) {
		return false
	}
	for e := range g.Edges {
		if !planar(t, probe.Without(g, e)) {
			return false
		}
	}
	return true
}

// TestSmallestNonPlanar: P15.3, and the other way round what Kuratowski found: of all small graphs it is true of just those that aren't planar and have no edge that could be spared.
func TestSmallestNonPlanar(t *testing.T) {
	for n := range 7 {
		for _, g := range probe.Graphs(n) {
			if got, want := ask(g).is, smallest(t, g); got != want {
				t.Fatalf("P15.3: Recognise(%v): %v, want %v", g, got, want)
			}
		}
	}
}

// spared: the edges that are left, when each that isn't needed for the graph not to be planar is taken away.
func spared(t *testing.T, g api.Graph) api.Graph {
	t.Helper()
	for e := len(g.Edges) - 1; e >= 0; e-- {
		if rest := probe.Without(g, e); !planar(t, rest) {
			g = rest
		}
	}
	return g
}

// TestSmallestPartsOfThrownGraphs: P15.3: they are subdivisions; without any edge, with any edge more, with any edge led elsewhere, they are what the chapter's words say.
func TestSmallestPartsOfThrownGraphs(t *testing.T) {
	d := probe.Dice(1505)
	for count := 0; count < 60; {
		g := d.Thin(8+d.Below(15), 5+d.Below(15))
		if planar(t, g) {
			continue
		}
		count++
		part := spared(t, g)
		if !ask(part).is {
			t.Fatalf("P15.3: Recognise(%v): false, and it is a smallest graph that isn't planar", part)
		}
		recognisedRightly(t, part)
		for e := range part.Edges {
			refuses(t, "an edge less", probe.Without(part, e))
			recognisedRightly(t, probe.Plus(probe.Without(part, e), d.Pairs(part.N, 1)...))
		}
		for _, e := range probe.Complete(part.N).Edges {
			if more := probe.Plus(part, [2]int{e.U, e.V}); len(more.Edges) > len(part.Edges) {
				refuses(t, "an edge more", more)
			}
		}
	}
}

// TestMadeOnesAreSmallest: P15.3 of longer ones.
func TestMadeOnesAreSmallest(t *testing.T) {
	d := probe.Dice(1506)
	for range 40 {
		for _, kind := range []api.KuraKind{api.K5, api.K33} {
			x := made(&d, kind, 6)
			if !ask(x.graph).is || !smallest(t, x.graph) {
				t.Fatalf("P15.3: %v: %v, smallest %v", x.graph, ask(x.graph).is, smallest(t, x.graph))
			}
		}
	}
}

// TestHowMany: of all graphs of seven vertices 3451 are subdivisions. Of K5: 21 times one of five vertices, 420 times one of six, 2310 times one of seven; of K3,3: 70 times and 630 times.
func TestHowMany(t *testing.T) {
	every := probe.Complete(7).Edges
	found := make(map[[2]int]int) // by kind and how many vertices have edges
	edges := make([]api.Edge, 0, len(every))
	for chosen := range 1 << len(every) {
		edges = edges[:0]
		for i, e := range every {
			if chosen>>i&1 == 1 {
				edges = append(edges, e)
			}
		}
		if k, is, _ := kura.Recognise(api.Graph{N: 7, Edges: edges}); is {
			found[[2]int{int(k.Kind), len(k.Branch) + len(edges) - len(k.Paths)}]++
		}
	}
	want := map[[2]int]int{{1, 5}: 21, {1, 6}: 420, {1, 7}: 2310, {2, 6}: 70, {2, 7}: 630}
	for key, count := range want {
		if found[key] != count {
			t.Errorf("P15.3: kind and vertices %v: %d, want %d", key, found[key], count)
		}
	}
	if len(found) != len(want) {
		t.Errorf("P15.3: kinds and vertices %v, want %v", found, want)
	}
}
