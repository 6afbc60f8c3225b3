package dfs_test

import (
	"math"
	"slices"
	"testing"

	"tangram/api"
	"tangram/dfs"
	"tangram/probe"
)

// climbs: whether one comes from v to u by going to the parent; behind as many steps as there are vertices one has gone round in a circle. What is no half-edge begins nowhere.
func climbs(g api.Graph, f api.Forest, u, v int) bool {
	for range g.N {
		if v == u {
			return true
		}
		h := f.Parent[v]
		if h < 0 || h >= 2*len(g.Edges) {
			return false
		}
		v, _ = probe.Ends(g, h)
	}
	return false
}

func below(g api.Graph, f api.Forest, u int) []int {
	var all []int
	for v := range g.N {
		if climbs(g, f, u, v) {
			all = append(all, v)
		}
	}
	return all
}

// once: condition 2.
func once(g api.Graph, f api.Forest) bool {
	return slices.Equal(slices.Sorted(slices.Values(f.Order)), probe.Rising(g.N))
}

// hung: condition 3 of one vertex.
func hung(g api.Graph, f api.Forest, v int) bool {
	h := f.Parent[v]
	if h == -1 {
		return f.Height[v] == 0
	}
	if h < 0 || h >= 2*len(g.Edges) {
		return false
	}
	from, to := probe.Ends(g, h)
	return to == v && f.Orient[h/2] == h && f.Height[from] != math.MaxInt64 && f.Height[v] == f.Height[from]+1
}

// together: condition 4 of one vertex.
func together(g api.Graph, f api.Forest, v int) bool {
	all := below(g, f, v)
	at := slices.Index(f.Order, v)
	if at < 0 || at+len(all) > len(f.Order) {
		return false
	}
	return slices.Equal(slices.Sorted(slices.Values(f.Order[at:at+len(all)])), all)
}

// led: condition 5 of one edge.
func led(g api.Graph, f api.Forest, e int) bool {
	h := f.Orient[e]
	if h != 2*e && h != 2*e+1 {
		return false
	}
	from, to := probe.Ends(g, h)
	return f.Parent[to] == h || to != from && climbs(g, f, to, from)
}

// broken: the chapter's conditions that don't hold, each asked by itself and as it is worded; of lists that haven't their lengths no more is asked.
func broken(g api.Graph, f api.Forest) []int {
	if len(f.Parent) != g.N || len(f.Height) != g.N || len(f.Order) != g.N || len(f.Orient) != len(g.Edges) {
		return []int{1}
	}
	var faults []int
	if !once(g, f) {
		faults = append(faults, 2)
	}
	vertices, edges := probe.Rising(g.N), probe.Rising(len(g.Edges))
	if slices.ContainsFunc(vertices, func(v int) bool { return !hung(g, f, v) }) {
		faults = append(faults, 3)
	}
	if slices.ContainsFunc(vertices, func(v int) bool { return !together(g, f, v) }) {
		faults = append(faults, 4)
	}
	if slices.ContainsFunc(edges, func(e int) bool { return !led(g, f, e) }) {
		faults = append(faults, 5)
	}
	return faults
}

// fault is a forest with something wrong in it, and the conditions that this breaks.
type fault struct {
	name   string
	breaks []int
	g      api.Graph
	f      api.Forest
}

// twigs: the walk goes 0, 1, 2, from there back to 0, then 3, 4; 5 is isolated.
func twigs() (api.Graph, api.Forest) {
	g := probe.With(6, api.Edge{U: 0, V: 1}, api.Edge{U: 0, V: 2}, api.Edge{U: 1, V: 2}, api.Edge{U: 1, V: 3}, api.Edge{U: 3, V: 4})
	return g, api.Forest{Parent: []int{-1, 0, 4, 6, 8, -1}, Height: []int{0, 1, 2, 2, 3, 0}, Order: []int{0, 1, 2, 3, 4, 5}, Orient: []int{0, 3, 4, 6, 8}}
}

// turned: the twigs, with one thing changed.
func turned(name string, change func(f *api.Forest), breaks ...int) fault {
	g, f := twigs()
	change(&f)
	return fault{name, breaks, g, f}
}

func wrongLengths() []fault {
	var all []fault
	for list, name := range []string{"Parent", "Height", "Order", "Orient"} {
		pick := func(f *api.Forest) *[]int { return []*[]int{&f.Parent, &f.Height, &f.Order, &f.Orient}[list] }
		for what, change := range map[string]func(l *[]int){
			" too short":      func(l *[]int) { *l = (*l)[:len(*l)-1] },
			" without first":  func(l *[]int) { *l = (*l)[1:] },
			" too long":       func(l *[]int) { *l = append(*l, 0) },
			" one -1 more":    func(l *[]int) { *l = append(*l, -1) },
			" one place more": func(l *[]int) { *l = append(*l, len(*l)) },
			" nil":            func(l *[]int) { *l = nil },
			" empty":          func(l *[]int) { *l = []int{} },
		} {
			all = append(all, turned(name+what, func(f *api.Forest) { change(pick(f)) }, 1))
		}
	}
	return all
}

// wrongOrders: of Order with a vertex missing, that vertex doesn't stand as the first of those below it: so condition 4 is broken beside condition 2.
func wrongOrders() []fault {
	var all []fault
	for name, order := range map[string][]int{
		"a vertex twice, apart":     {0, 1, 2, 3, 4, 0},
		"a vertex for an isolated":  {0, 1, 2, 3, 4, 4},
		"an isolated for a vertex":  {0, 1, 2, 3, 5, 5},
		"one vertex all the time":   {0, 0, 0, 0, 0, 0},
		"-1 in Order":               {0, 1, 2, 3, 4, -1},
		"N in Order":                {0, 1, 2, 3, 4, 6},
		"the smallest int in Order": {0, 1, 2, 3, 4, math.MinInt64},
		"the greatest int in Order": {math.MaxInt64, 1, 2, 3, 4, 5},
	} {
		all = append(all, turned(name, func(f *api.Forest) { f.Order = order }, 2, 4))
	}
	for name, order := range map[string][]int{
		"a vertex among those below another":  {0, 1, 3, 2, 4, 5},
		"a root among those below another":    {0, 1, 2, 5, 3, 4},
		"a vertex between its tree's":         {0, 1, 3, 5, 4, 2},
		"a root behind a child":               {1, 0, 2, 3, 4, 5},
		"a vertex behind the first below it":  {0, 2, 1, 3, 4, 5},
		"a vertex behind the last below it":   {0, 1, 2, 4, 3, 5},
		"a leaf ahead of all":                 {4, 0, 1, 2, 3, 5},
		"a root behind all that is below it":  {1, 2, 3, 4, 0, 5},
		"all the other way round":             {5, 4, 3, 2, 1, 0},
		"a child in the tree of another root": {0, 1, 2, 3, 5, 4},
	} {
		all = append(all, turned(name, func(f *api.Forest) { f.Order = order }, 4))
	}
	return all
}

func wrongHeights() []fault {
	var all []fault
	for name, heights := range map[string][]int{
		"a root of height 1":                  {0, 1, 2, 2, 3, 1},
		"a root of height -1":                 {0, 1, 2, 2, 3, -1},
		"a root of the greatest height":       {0, 1, 2, 2, 3, math.MaxInt64},
		"a leaf too high by one":              {0, 1, 2, 2, 4, 0},
		"a leaf as high as its parent":        {0, 1, 2, 2, 2, 0},
		"a leaf of height 0":                  {0, 1, 2, 2, 0, 0},
		"a leaf of the smallest height":       {0, 1, 2, 2, math.MinInt64, 0},
		"heights lifted":                      {1, 2, 3, 3, 4, 0},
		"heights lowered":                     {-1, 0, 1, 1, 2, 0},
		"heights lifted from a vertex on":     {0, 1, 2, 3, 4, 0},
		"heights that go beyond the greatest": {math.MaxInt64, math.MinInt64, math.MinInt64 + 1, math.MinInt64 + 1, math.MinInt64 + 2, 0},
		"heights that go down":                {0, -1, -2, -2, -3, 0},
		"no heights":                          {0, 0, 0, 0, 0, 0},
	} {
		all = append(all, turned(name, func(f *api.Forest) { f.Height = heights }, 3))
	}
	return all
}

func wrongParents() []fault {
	var all []fault
	for _, no := range []int{-2, 10, 11, -10, math.MinInt64, math.MinInt64 + 1, math.MaxInt64, math.MaxInt64 - 1} {
		all = append(all, turned("a root's Parent that is no half-edge", func(f *api.Forest) { f.Parent[5] = no }, 3))
		all = append(all, turned("a leaf's Parent that is no half-edge", func(f *api.Forest) { f.Parent[4] = no }, 3, 5))
	}
	return append(all,
		turned("a Parent that leads elsewhere, from a leaf's parent", func(f *api.Forest) { f.Parent[5], f.Height[5] = 8, 3 }, 3),
		turned("a Parent that leads elsewhere, from a root", func(f *api.Forest) { f.Parent[5], f.Height[5] = 0, 1 }, 3),
		turned("the Parent of another", func(f *api.Forest) { f.Parent[4], f.Height[4] = 6, 2 }, 3, 5),
		turned("a leaf's Parent from itself", func(f *api.Forest) { f.Parent[4] = 9 }, 3, 5),
		turned("a leaf's Parent and edge from itself", func(f *api.Forest) { f.Parent[4], f.Orient[4] = 9, 9 }, 3, 5),
		turned("an inner Parent from the vertex itself", func(f *api.Forest) { f.Parent[2] = 5 }, 3, 4, 5),
		turned("the other half-edge walked than a leaf's Parent", func(f *api.Forest) { f.Orient[4] = 9 }, 3),
		turned("the other half-edge walked than an inner Parent", func(f *api.Forest) { f.Orient[3] = 7 }, 3),
		turned("the other half-edge walked than a root's child's Parent", func(f *api.Forest) { f.Orient[0] = 1 }, 3),
		turned("Parents round in a circle", func(f *api.Forest) { f.Parent[0], f.Height[0] = 3, 3 }, 3, 4),
		turned("Parents round in a circle, heights as they were", func(f *api.Forest) { f.Parent[0] = 3 }, 3, 4),
		turned("Parents round in a circle, from the smallest height", func(f *api.Forest) {
			f.Parent[0] = 3
			copy(f.Height, []int{math.MinInt64, math.MinInt64 + 1, math.MaxInt64, math.MinInt64 + 2, math.MinInt64 + 3})
		}, 3, 4),
		turned("a root more", func(f *api.Forest) { f.Parent[4], f.Height[4] = -1, 0 }, 5),
		turned("a root more, its edge walked the other way", func(f *api.Forest) { f.Parent[4], f.Height[4], f.Orient[4] = -1, 0, 9 }, 5),
		turned("roots alone", func(f *api.Forest) { f.Parent, f.Height = []int{-1, -1, -1, -1, -1, -1}, make([]int, 6) }, 5),
		turned("a root with the height of the leaf that it was", func(f *api.Forest) { f.Parent[4] = -1 }, 3, 5),
	)
}

func wrongEdges() []fault {
	var all []fault
	for _, no := range []int{-1, -2, -3, 0, 4, 5, 8, 9, 10, 11, math.MinInt64, math.MaxInt64} {
		all = append(all, turned("a back edge walked by another's half-edge, or none", func(f *api.Forest) { f.Orient[1] = no }, 5))
		if no != 8 && no != 9 {
			all = append(all, turned("a tree edge walked by another's half-edge, or none", func(f *api.Forest) { f.Orient[4] = no }, 3, 5))
		}
	}
	triangle := probe.Cycle(3)
	star := api.Forest{Parent: []int{-1, 0, 2}, Height: []int{0, 1, 1}, Order: []int{0, 1, 2}, Orient: []int{0, 2, 4}}
	across := probe.CopyForest(star)
	across.Orient[2] = 5
	first := probe.Walked(triangle, []int{0, 1, 2}, [][]int{{2, 0}, {1, 4}, {3, 5}}) // 0, 2, 1, and back by the edge 0
	for _, no := range []int{-1, 0, 2, 6, math.MinInt64} {
		f := probe.CopyForest(first)
		f.Orient[0] = no
		all = append(all, fault{"the edge 0, a back edge, walked down or not at all", []int{5}, triangle, f})
	}
	two := api.Forest{Parent: []int{-1, -1}, Height: []int{0, 0}, Order: []int{0, 1}, Orient: []int{0}}
	other := probe.CopyForest(two)
	other.Orient[0] = 1
	return append(all,
		turned("a back edge walked down", func(f *api.Forest) { f.Orient[1] = 2 }, 5),
		fault{"a back edge walked across", []int{5}, triangle, star},
		fault{"a back edge walked across, the other way", []int{5}, triangle, across},
		fault{"a back edge walked from tree to tree", []int{5}, probe.Path(2), two},
		fault{"a back edge walked from tree to tree, the other way", []int{5}, probe.Path(2), other},
	)
}

// faulty: forests that are no depth-first forests, in each way in which one may not be.
func faulty() []fault {
	return slices.Concat(wrongLengths(), wrongOrders(), wrongHeights(), wrongParents(), wrongEdges())
}

func TestFaultyForests(t *testing.T) {
	if g, f := twigs(); len(broken(g, f)) != 0 || !dfs.Valid(g, f) {
		t.Fatalf("P7.2: %+v: breaks %v, Valid %v", f, broken(g, f), dfs.Valid(g, f))
	}
	for _, c := range faulty() {
		if got := broken(c.g, c.f); !slices.Equal(got, c.breaks) {
			t.Errorf("the test itself: %s: %+v breaks %v, not %v", c.name, c.f, got, c.breaks)
		}
		if dfs.Valid(c.g, c.f) {
			t.Errorf("P7.2: Valid with %s: true: %+v", c.name, c.f)
		}
	}
}

// TestOtherForests: forests that are depth-first, few of them the walk.
func TestOtherForests(t *testing.T) {
	d := probe.Dice(71)
	others := 0
	for _, g := range many() {
		for range 3 {
			f := d.Forest(g)
			if !dfs.Valid(g, f) {
				t.Fatalf("P7.2: Valid(%v, %+v): false", g, f)
			}
			if !probe.SameForest(f, walked(t, g)) {
				others++
			}
		}
	}
	if others < 500 {
		t.Errorf("the test itself: only %d forests are not the walk", others)
	}
}

// agrees: Valid answers what the conditions say.
func agrees(t *testing.T, g api.Graph, f api.Forest) bool {
	t.Helper()
	faults := broken(g, f)
	if got := dfs.Valid(g, f); got != (len(faults) == 0) {
		t.Fatalf("P7.2: Valid(%v, %+v): %v; broken are %v", g, f, got, faults)
	}
	return len(faults) == 0
}

// choices: all lists that have at each place one of the numbers for that place.
func choices(places [][]int) [][]int {
	all := [][]int{nil}
	for _, place := range places {
		var longer [][]int
		for _, list := range all {
			for _, x := range place {
				longer = append(longer, append(slices.Clone(list), x))
			}
		}
		all = longer
	}
	return all
}

// same: so many places with the same numbers each.
func same(count int, numbers ...int) [][]int { return slices.Repeat([][]int{numbers}, count) }

// oriented: the ways to walk each edge by one of its half-edges.
func oriented(g api.Graph) [][]int {
	var places [][]int
	for e := range g.Edges {
		places = append(places, []int{2 * e, 2*e + 1})
	}
	return choices(places)
}

// allOf: Valid of all forests of these lists; as many are valid as ways to walk the graph are unlike each other.
func allOf(t *testing.T, g api.Graph, parents, heights, orders, orients [][]int) {
	t.Helper()
	count := 0
	for _, parent := range parents {
		for _, height := range heights {
			for _, order := range orders {
				for _, orient := range orients {
					if agrees(t, g, api.Forest{Parent: parent, Height: height, Order: order, Orient: orient}) {
						count++
					}
				}
			}
		}
	}
	if want := len(probe.Forests(g)); count != want {
		t.Errorf("P7.2: %v has %d depth-first forests, %d are valid", g, want, count)
	}
}

func TestAllForestsOfTwo(t *testing.T) {
	for n := range 3 {
		for _, g := range probe.Graphs(n) {
			numbers := choices(same(n, -1, 0, 1, 2))
			allOf(t, g, choices(same(n, -2, -1, 0, 1, 2)), numbers, numbers, choices(same(len(g.Edges), -1, 0, 1, 2)))
		}
	}
}

func TestAllForestsOfThree(t *testing.T) {
	for _, g := range probe.Graphs(3) {
		halves := append(probe.Rising(2*len(g.Edges)), -1)
		allOf(t, g, choices(same(3, halves...)), choices(same(3, 0, 1, 2)), probe.Arranged(probe.Rising(3)), oriented(g))
	}
}

// TestAllTreesOfFour: at each vertex all half-edges that lead to it as its Parent, in all orders; the heights are those that the parents say.
func TestAllTreesOfFour(t *testing.T) {
	for _, g := range []api.Graph{probe.Path(4), probe.Star(4, 1), probe.Cycle(4), probe.Complete(4), probe.With(4, api.Edge{U: 0, V: 1}, api.Edge{U: 1, V: 2}, api.Edge{U: 1, V: 3}, api.Edge{U: 2, V: 3}), probe.Beside(probe.Path(2), probe.Path(2))} {
		var leading [][]int
		for v, out := range probe.Leaving(g) {
			leading = append(leading, []int{-1})
			for _, h := range out {
				leading[v] = append(leading[v], h^1)
			}
		}
		count := 0
		for _, parent := range choices(leading) {
			for _, order := range probe.Arranged(probe.Rising(4)) {
				for _, orient := range oriented(g) {
					f := api.Forest{Parent: parent, Order: order, Orient: orient}
					for v := range 4 {
						over := func(u int) bool { return u != v && climbs(g, f, u, v) }
						f.Height = append(f.Height, len(slices.DeleteFunc(probe.Rising(4), func(u int) bool { return !over(u) })))
					}
					if agrees(t, g, f) {
						count++
					}
				}
			}
		}
		if want := len(probe.Forests(g)); count != want {
			t.Errorf("P7.2: %v has %d depth-first forests, %d are valid", g, want, count)
		}
	}
}

func TestForestsWithNumbersChanged(t *testing.T) {
	d := probe.Dice(72)
	right := 0
	for range 4000 {
		g := d.Graph(1+d.Below(9), 10+d.Below(80))
		f := d.Forest(g)
		for range 8 {
			if agrees(t, g, d.Spoiled(g, f)) {
				right++
			}
		}
	}
	if right < 1000 || right > 16000 {
		t.Errorf("the test itself: %d of 32000 forests are right", right)
	}
}

// TestNumbersOfAnyKind: lists that were never a forest.
func TestNumbersOfAnyKind(t *testing.T) {
	d := probe.Dice(77)
	thrown := func(count, most int) []int {
		list := make([]int, count)
		for i := range list {
			list[i] = d.Below(most+3) - 1
			if d.Below(30) == 0 {
				list[i] = []int{math.MinInt64, math.MaxInt64, math.MinInt64 + 1, 1 << 62}[d.Below(4)]
			}
		}
		return list
	}
	for range 20000 {
		g := d.Graph(d.Below(6), d.Below(101))
		agrees(t, g, api.Forest{Parent: thrown(g.N, 2*len(g.Edges)), Height: thrown(g.N, g.N), Order: thrown(g.N, g.N), Orient: thrown(len(g.Edges), 2*len(g.Edges))})
	}
}

// TestForestsOfOtherGraphs: a forest of one graph, held against another of as many vertices and edges, and against one of other numbers.
func TestForestsOfOtherGraphs(t *testing.T) {
	for n := range 5 {
		all := probe.Graphs(n)
		for _, g := range all {
			f := slowWalk(g)
			for _, other := range all {
				agrees(t, other, f)
			}
			agrees(t, probe.With(n+1, g.Edges...), f)
		}
	}
}
