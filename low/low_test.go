package low_test

import (
	"math"
	"slices"
	"testing"

	"tangram/api"
	"tangram/dfs"
	"tangram/low"
	"tangram/probe"
)

func walked(t *testing.T, g api.Graph) api.Forest {
	t.Helper()
	f, code := dfs.Walk(g)
	if code != api.OK {
		t.Fatalf("Walk(%v): %d", probe.Shown(g), code)
	}
	return f
}

func of(t *testing.T, g api.Graph, f api.Forest) api.Low {
	t.Helper()
	l, code := low.Of(g, f)
	if code != api.OK {
		t.Fatalf("P8.1: Of(%v): %d", probe.Shown(g), code)
	}
	return l
}

func returns(t *testing.T, g api.Graph, f api.Forest, e int) []int {
	t.Helper()
	list, code := low.Returns(g, f, e)
	if code != api.OK {
		t.Fatalf("P8.1: Returns(%v, %d): %d", probe.Shown(g), e, code)
	}
	return list
}

func sameLow(a, b api.Low) bool {
	return slices.Equal(a.Low, b.Low) && slices.Equal(a.Low2, b.Low2) && slices.Equal(a.Nest, b.Nest) && slices.EqualFunc(a.Out, b.Out, slices.Equal)
}

func isNothing(l api.Low) bool {
	return len(l.Low) == 0 && len(l.Low2) == 0 && len(l.Nest) == 0 && len(l.Out) == 0
}

// known is an answer that is written out, by hand.
type known struct {
	name    string
	g       api.Graph
	f       api.Forest
	want    api.Low
	returns [][]int // by edge
}

// k4 is the chapter's third example.
func k4() known {
	g := probe.Complete(4)
	return known{"K4", g, probe.Walked(g, probe.Rising(4), probe.Leaving(g)), api.Low{
		Low: []int{0, 0, 0, 0, 1, 0}, Low2: []int{0, 2, 3, 1, 3, 1}, Nest: []int{0, 0, 0, 0, 2, 1}, Out: [][]int{{0}, {6}, {3, 10}, {5, 9}},
	}, [][]int{nil, {1}, {2}, {1, 2}, {4}, {2, 4}}}
}

func examples() []known {
	cycle, path := probe.Cycle(4), probe.Path(3)
	return []known{
		{"a cycle", cycle, probe.Walked(cycle, probe.Rising(4), probe.Leaving(cycle)), api.Low{
			Low: []int{0, 0, 0, 0}, Low2: []int{0, 3, 1, 2}, Nest: []int{0, 0, 0, 0}, Out: [][]int{{0}, {4}, {6}, {3}},
		}, [][]int{nil, {1}, {1}, {1}}},
		{"a path", path, probe.Walked(path, probe.Rising(3), probe.Leaving(path)), api.Low{
			Low: []int{0, 1}, Low2: []int{0, 1}, Nest: []int{0, 2}, Out: [][]int{{0}, {2}, nil},
		}, [][]int{nil, nil}},
		k4(),
	}
}

func withoutCycles() []known {
	far := probe.Star(4, 3)
	return []known{
		{"no vertices", probe.With(0), api.Forest{}, api.Low{}, nil},
		{"one vertex", probe.With(1), api.Forest{Parent: []int{-1}, Height: []int{0}, Order: []int{0}}, api.Low{Out: [][]int{nil}}, nil},
		{"no edges", probe.With(3), api.Forest{Parent: []int{-1, -1, -1}, Height: []int{0, 0, 0}, Order: []int{2, 0, 1}}, api.Low{Out: [][]int{nil, nil, nil}}, nil},
		{"one edge, walked up by the numbers", probe.Path(2), api.Forest{Parent: []int{1, -1}, Height: []int{1, 0}, Order: []int{1, 0}, Orient: []int{1}}, api.Low{
			Low: []int{0}, Low2: []int{0}, Nest: []int{0}, Out: [][]int{nil, {1}},
		}, [][]int{nil}},
		{"a star from a tip", far, probe.Walked(far, probe.Rising(4), probe.Leaving(far)), api.Low{
			Low: []int{0, 1, 1}, Low2: []int{0, 1, 1}, Nest: []int{0, 2, 2}, Out: [][]int{{0}, nil, nil, {3, 5}},
		}, [][]int{nil, nil, nil}},
	}
}

func withCycles() []known {
	bow := probe.With(5, api.Edge{U: 0, V: 1}, api.Edge{U: 0, V: 2}, api.Edge{U: 1, V: 2}, api.Edge{U: 2, V: 3}, api.Edge{U: 2, V: 4}, api.Edge{U: 3, V: 4})
	fan := probe.With(4, api.Edge{U: 0, V: 1}, api.Edge{U: 0, V: 2}, api.Edge{U: 0, V: 3}, api.Edge{U: 1, V: 2}, api.Edge{U: 2, V: 3})
	twig := probe.With(6, api.Edge{U: 0, V: 3}, api.Edge{U: 0, V: 5}, api.Edge{U: 1, V: 3}, api.Edge{U: 3, V: 5})
	other := probe.With(5, api.Edge{U: 0, V: 1}, api.Edge{U: 0, V: 2}, api.Edge{U: 1, V: 2}, api.Edge{U: 1, V: 3})
	return []known{
		{"cycles that share a vertex", bow, probe.Walked(bow, probe.Rising(5), probe.Leaving(bow)), api.Low{
			Low: []int{0, 0, 0, 2, 2, 2}, Low2: []int{0, 2, 1, 2, 4, 3}, Nest: []int{0, 0, 0, 4, 4, 4}, Out: [][]int{{0}, {4}, {3, 6}, {10}, {9}},
		}, [][]int{nil, {1}, {1}, nil, {4}, {4}}},
		{"two back edges to one height", fan, probe.Walked(fan, probe.Rising(4), probe.Leaving(fan)), api.Low{
			Low: []int{0, 0, 0, 0, 0}, Low2: []int{0, 2, 3, 1, 2}, Nest: []int{0, 0, 0, 0, 0}, Out: [][]int{{0}, {6}, {3, 8}, {5}},
		}, [][]int{nil, {1}, {2}, {1, 2}, {2}}},
		{"a bridge of a smaller number than the edge that leads back", twig, probe.Walked(twig, probe.Rising(6), probe.Leaving(twig)), api.Low{
			Low: []int{0, 0, 1, 0}, Low2: []int{0, 2, 1, 1}, Nest: []int{0, 0, 2, 0}, Out: [][]int{{0}, nil, nil, {6, 5}, nil, {3}},
		}, [][]int{nil, {1}, nil, {1}}},
		{"another forest than the walk", other, api.Forest{Parent: []int{3, 0, -1, 6, -1}, Height: []int{1, 2, 0, 3, 0}, Order: []int{2, 0, 1, 3, 4}, Orient: []int{0, 3, 4, 6}}, api.Low{
			Low: []int{0, 0, 0, 2}, Low2: []int{1, 0, 2, 2}, Nest: []int{0, 0, 0, 4}, Out: [][]int{{0}, {4, 6}, {3}, nil, nil},
		}, [][]int{{2}, nil, {2}, nil}},
	}
}

func TestKnownAnswers(t *testing.T) {
	for _, c := range slices.Concat(examples(), withoutCycles(), withCycles()) {
		if l := of(t, c.g, c.f); !sameLow(l, c.want) {
			t.Errorf("P8.1: Of %s: %+v, want %+v", c.name, l, c.want)
		}
		for e, want := range c.returns {
			if got := returns(t, c.g, c.f, e); !slices.Equal(got, want) {
				t.Errorf("P8.1: Returns of %s, %d: %v, want %v", c.name, e, got, want)
			}
		}
	}
}

// noEdges: numbers that no edge has, of a graph of m edges.
func noEdges(m int) []int {
	return []int{-1, -2, m, m + 1, 2 * m, 2*m + 1, -m - 1, api.MaxEdges, math.MinInt64, math.MinInt64 + 1, math.MaxInt64, math.MaxInt64 - 1}
}

func TestNumbersOfNoEdge(t *testing.T) {
	for _, c := range slices.Concat(examples(), withoutCycles(), withCycles()) {
		for _, e := range noEdges(len(c.g.Edges)) {
			if e == 0 && len(c.g.Edges) > 0 {
				continue
			}
			if list, code := low.Returns(c.g, c.f, e); len(list) != 0 || code != api.ErrRange {
				t.Errorf("P8.1: R3: Returns of %s, %d: %v, %d", c.name, e, list, code)
			}
		}
	}
}

// TestTheLastEdge: the greatest number that an edge has, and the one behind it.
func TestTheLastEdge(t *testing.T) {
	for _, c := range slices.Concat(examples(), withCycles()) {
		last := len(c.g.Edges) - 1
		if got := returns(t, c.g, c.f, last); !slices.Equal(got, c.returns[last]) {
			t.Errorf("P8.1: Returns of %s, %d: %v", c.name, last, got)
		}
		if list, code := low.Returns(c.g, c.f, last+1); len(list) != 0 || code != api.ErrRange {
			t.Errorf("P8.1: Returns of %s, %d: %v, %d", c.name, last+1, list, code)
		}
	}
}

// refuses: Of and Returns answer the error and nothing else, whatever the number of the edge.
func refuses(t *testing.T, g api.Graph, f api.Forest, want api.Errno, why string) {
	t.Helper()
	if l, code := low.Of(g, f); code != want || !isNothing(l) {
		t.Fatalf("R2: R3: %s: Of(%v): %+v, %d, want %d", why, probe.Shown(g), l, code, want)
	}
	for _, e := range append(noEdges(len(g.Edges)), 0, len(g.Edges)-1) {
		if list, code := low.Returns(g, f, e); code != want || len(list) != 0 {
			t.Fatalf("R2: R3: %s: Returns(%v, %d): %v, %d, want %d", why, probe.Shown(g), e, list, code, want)
		}
	}
}

// TestGraphsThatAreNotValid: ErrGraph comes first, whether the forest is one and whether there is such an edge.
func TestGraphsThatAreNotValid(t *testing.T) {
	for _, g := range probe.Invalid() {
		zeros := api.Forest{Orient: make([]int, len(g.Edges))}
		if g.N >= 0 && g.N <= api.MaxN+1 {
			zeros.Parent, zeros.Height, zeros.Order = make([]int, g.N), make([]int, g.N), make([]int, g.N)
		}
		for _, f := range []api.Forest{{}, k4().f, zeros} {
			refuses(t, g, f, api.ErrGraph, "no graph")
		}
	}
}

// TestForestsFitButGraphDoesNot: with the edges in order the forest would be one.
func TestForestsFitButGraphDoesNot(t *testing.T) {
	f := api.Forest{Parent: []int{-1, 2, 0}, Height: []int{0, 1, 1}, Order: []int{0, 1, 2}, Orient: []int{0, 2}}
	refuses(t, probe.With(3, api.Edge{U: 0, V: 2}, api.Edge{U: 0, V: 1}), f, api.ErrGraph, "edges that fall")
	f.Parent = []int{-1, 0, 2}
	of(t, probe.With(3, api.Edge{U: 0, V: 1}, api.Edge{U: 0, V: 2}), f)
}

// noForests: K4's walk, with one thing changed each.
func noForests() map[string]api.Forest {
	all := map[string]api.Forest{"nothing": {}, "another graph's": examples()[0].f}
	for name, change := range map[string]func(f *api.Forest){
		"a height too great":          func(f *api.Forest) { f.Height[3]++ },
		"the smallest height":         func(f *api.Forest) { f.Height[3] = math.MinInt64 },
		"the greatest height":         func(f *api.Forest) { f.Height[0] = math.MaxInt64 },
		"heights lifted":              func(f *api.Forest) { f.Height = []int{1, 2, 3, 4} },
		"heights missing":             func(f *api.Forest) { f.Height = nil },
		"a height more":               func(f *api.Forest) { f.Height = append(f.Height, 4) },
		"a parent that leads away":    func(f *api.Forest) { f.Parent[3] = 11 },
		"a parent that isn't there":   func(f *api.Forest) { f.Parent[3] = 12 },
		"the smallest parent":         func(f *api.Forest) { f.Parent[3] = math.MinInt64 },
		"the greatest parent":         func(f *api.Forest) { f.Parent[3] = math.MaxInt64 },
		"a root more":                 func(f *api.Forest) { f.Parent[3], f.Height[3] = -1, 0 },
		"a parent missing":            func(f *api.Forest) { f.Parent = f.Parent[:3] },
		"an order out of order":       func(f *api.Forest) { f.Order[2], f.Order[3] = 3, 2 },
		"a vertex twice":              func(f *api.Forest) { f.Order[3] = 2 },
		"a vertex that isn't there":   func(f *api.Forest) { f.Order[3] = 4 },
		"the greatest vertex":         func(f *api.Forest) { f.Order[3] = math.MaxInt64 },
		"a vertex missing":            func(f *api.Forest) { f.Order = f.Order[:3] },
		"a back edge walked down":     func(f *api.Forest) { f.Orient[2] = 4 },
		"a tree edge walked up":       func(f *api.Forest) { f.Orient[5] = 11 },
		"an edge walked by another":   func(f *api.Forest) { f.Orient[2] = 3 },
		"an edge that wasn't walked":  func(f *api.Forest) { f.Orient[1] = -1 },
		"the smallest half-edge":      func(f *api.Forest) { f.Orient[1] = math.MinInt64 },
		"the greatest half-edge":      func(f *api.Forest) { f.Orient[1] = math.MaxInt64 },
		"an edge missing":             func(f *api.Forest) { f.Orient = f.Orient[:5] },
		"an edge more":                func(f *api.Forest) { f.Orient = append(f.Orient, 12) },
		"back edges as a height's":    func(f *api.Forest) { f.Parent, f.Height = []int{-1, 0, 2, 4}, []int{0, 1, 1, 1} },
		"parents round in a circle":   func(f *api.Forest) { f.Parent[0], f.Height[0] = 3, 3 },
		"no edges, no parents at all": func(f *api.Forest) { f.Parent, f.Orient = nil, nil },
	} {
		f := probe.CopyForest(k4().f)
		change(&f)
		all[name] = f
	}
	return all
}

// TestForestsThatAreNotValid: ErrForest comes ahead of ErrRange.
func TestForestsThatAreNotValid(t *testing.T) {
	g := probe.Complete(4)
	for name, f := range noForests() {
		if name == "another graph's" {
			refuses(t, probe.Path(4), f, api.ErrForest, name)
		}
		refuses(t, g, f, api.ErrForest, name)
	}
	refuses(t, probe.With(0), k4().f, api.ErrForest, "a forest of no vertices")
	refuses(t, probe.With(1), api.Forest{}, api.ErrForest, "no forest of a vertex")
	refuses(t, probe.With(5, g.Edges...), k4().f, api.ErrForest, "a vertex more")
}
