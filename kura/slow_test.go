package kura_test

import (
	"slices"
	"testing"

	"tangram/api"
	"tangram/probe"
)

// The chapter's words over again. Chains: edges that meet in a vertex of degree 2 lie on one; of all ways along them the one is sought that is written as the chapter says. Subdivisions: vertices are taken off their edges one by one, till K5 or K3,3 itself is left.

func degrees(g api.Graph) []int {
	list := make([]int, g.N)
	for _, e := range g.Edges {
		list[e.U]++
		list[e.V]++
	}
	return list
}

// slowGroups: the edges by the chains on which they lie, in the order of the least ones.
func slowGroups(g api.Graph) [][]int {
	degree := degrees(g)
	meet := func(a, b api.Edge) bool {
		for _, v := range []int{a.U, a.V} {
			if degree[v] == 2 && (v == b.U || v == b.V) {
				return true
			}
		}
		return false
	}
	least := probe.Rising(len(g.Edges))
	for range g.Edges {
		for i, a := range g.Edges {
			for j, b := range g.Edges {
				if meet(a, b) {
					least[i] = min(least[i], least[j])
				}
			}
		}
	}
	groups := make([][]int, len(g.Edges))
	for e, first := range least {
		groups[first] = append(groups[first], e)
	}
	return slices.DeleteFunc(groups, func(list []int) bool { return len(list) == 0 })
}

// slowWays: all ways that go by each of these edges just once, and on from a list's end.
func slowWays(g api.Graph, way, edges []int) [][]int {
	if len(edges) == 0 {
		return [][]int{way}
	}
	var all [][]int
	for i, e := range edges {
		last := way[len(way)-1]
		ends := g.Edges[e]
		if last != ends.U && last != ends.V {
			continue
		}
		rest := slices.Delete(slices.Clone(edges), i, i+1)
		all = append(all, slowWays(g, append(slices.Clone(way), ends.U+ends.V-last), rest)...)
	}
	return all
}

// asWritten: is it a chain as the chapter has it written?
func asWritten(degree, list []int) bool {
	first, last := list[0], list[len(list)-1]
	for _, v := range list[1 : len(list)-1] {
		if degree[v] != 2 {
			return false
		}
	}
	switch {
	case first != last:
		return degree[first] != 2 && degree[last] != 2 && first < last
	case degree[first] != 2:
		return list[1] < list[len(list)-2]
	}
	return first == slices.Min(list) && list[1] < list[len(list)-2]
}

func slowChains(t *testing.T, g api.Graph) [][]int {
	t.Helper()
	degree := degrees(g)
	var all [][]int
	for _, group := range slowGroups(g) {
		var found [][]int
		for v := range g.N {
			for _, way := range slowWays(g, []int{v}, group) {
				if asWritten(degree, way) {
					found = append(found, way)
				}
			}
		}
		if len(found) != 1 {
			t.Fatalf("%v: the edges %v are written as %v", g, group, found)
		}
		all = append(all, found[0])
	}
	return all
}

// table: by two vertices, in either order: are they joined?
type table [][]bool

func tableOf(g api.Graph) table {
	x := make(table, g.N)
	for v := range x {
		x[v] = make([]bool, g.N)
	}
	for _, e := range g.Edges {
		x.set(e.U, e.V, true)
	}
	return x
}

func (x table) set(u, v int, joined bool) { x[u][v], x[v][u] = joined, joined }

func (x table) neighbours(v int) []int {
	var list []int
	for u, joined := range x[v] {
		if joined {
			list = append(list, u)
		}
	}
	return list
}

// smooth takes the vertices of degree 2 off their edges; false, if two vertices would be joined twice then: in a subdivision that never is.
func (x table) smooth() bool {
	for v := range x {
		round := x.neighbours(v)
		if len(round) != 2 {
			continue
		}
		if x[round[0]][round[1]] {
			return false
		}
		x.set(v, round[0], false)
		x.set(v, round[1], false)
		x.set(round[0], round[1], true)
	}
	return true
}

// slowSides: the vertices that are left as the branch vertices of K5 or K3,3 itself.
func (x table) slowSides() (api.KuraKind, []int) {
	var rest []int
	edges := 0
	for v := range x {
		if count := len(x.neighbours(v)); count > 0 {
			rest = append(rest, v)
			edges += count
		}
	}
	if len(rest) == 5 && edges == 20 {
		return api.K5, rest
	}
	if len(rest) != 6 || edges != 18 {
		return 0, nil
	}
	for i := 1; i < 6; i++ {
		for j := i + 1; j < 6; j++ {
			near := []int{rest[0], rest[i], rest[j]}
			far := slices.DeleteFunc(slices.Clone(rest), func(v int) bool { return slices.Contains(near, v) })
			if x.allJoined(near, far) {
				return api.K33, append(near, far...)
			}
		}
	}
	return 0, nil
}

func (x table) allJoined(near, far []int) bool {
	for _, u := range near {
		for _, v := range far {
			if !x[u][v] {
				return false
			}
		}
	}
	return true
}

// slowPath: a way from u to v that keeps away from these, but for v itself.
func (x table) slowPath(u, v int, away []int) []int {
	if x[u][v] {
		return []int{u, v}
	}
	for _, w := range x.neighbours(u) {
		if slices.Contains(away, w) {
			continue
		}
		if path := x.slowPath(w, v, append(slices.Clone(away), w)); path != nil {
			return append([]int{u}, path...)
		}
	}
	return nil
}

func slowKura(g api.Graph) (api.Kura, bool) {
	x := tableOf(g)
	if !x.smooth() {
		return api.Kura{}, false
	}
	kind, branch := x.slowSides()
	if kind == 0 {
		return api.Kura{}, false
	}
	whole := tableOf(g)
	k := api.Kura{Kind: kind, Branch: branch}
	for i, u := range branch {
		for j, v := range branch {
			if kind == api.K5 && i < j || kind == api.K33 && i < 3 && j >= 3 {
				k.Paths = append(k.Paths, whole.slowPath(u, v, branch))
			}
		}
	}
	return k, true
}

// agrees: both calls say the same as the chapter's words.
func agrees(t *testing.T, g api.Graph) {
	t.Helper()
	chained(t, g, slowChains(t, g)...)
	recognisedRightly(t, g)
}

func recognisedRightly(t *testing.T, g api.Graph) {
	t.Helper()
	if k, is := slowKura(g); is {
		recognises(t, g, k)
	} else {
		refuses(t, "no subdivision", g)
	}
}

func TestAllSmallGraphs(t *testing.T) {
	for n := range 6 {
		for _, g := range probe.Graphs(n) {
			agrees(t, g)
		}
	}
	for _, g := range probe.Graphs(6) {
		recognisedRightly(t, g)
	}
}

// TestThrownGraphs: thin ones, which have long chains.
func TestThrownGraphs(t *testing.T) {
	d := probe.Dice(1501)
	for range 300 {
		agrees(t, d.Thin(2+d.Below(15), d.Below(8)))
		agrees(t, d.Renamed(d.Thin(2+d.Below(15), d.Below(8))))
		agrees(t, d.Graph(1+d.Below(9), d.Below(101)))
		agrees(t, d.Renamed(probe.Beside(probe.Cycle(3+d.Below(6)), d.Thin(2+d.Below(6), d.Below(3)), probe.Cycle(3+d.Below(4)))))
	}
}

// paired: a graph in which so many vertices have that degree: the half-edges that leave them are thrown together two by two, loops and doubles among them, and vertices of degree 2 put between.
func paired(d *probe.Dice, count, degree int) api.Graph {
	var ends []int
	for v := range count {
		for range degree {
			ends = append(ends, v)
		}
	}
	ends = probe.Mixed(d, ends)
	n := count
	met := make(map[[2]int]int)
	var pairs [][2]int
	for i := 0; i < len(ends); i += 2 {
		u, v := ends[i], ends[i+1]
		key := [2]int{min(u, v), max(u, v)}
		between := d.Below(3)
		switch {
		case u == v:
			between += 2
		case met[key] > 0:
			between++
		}
		if between == 0 {
			met[key]++
		}
		last := u
		for range between {
			pairs = append(pairs, [2]int{last, n})
			last = n
			n++
		}
		pairs = append(pairs, [2]int{last, v})
	}
	return d.Renamed(probe.OfPairs(n+d.Below(3), pairs))
}

// TestRightDegrees: all that have five vertices of degree 4, or six of degree 3, and no others but of degree 2 and 0; few of them are subdivisions.
func TestRightDegrees(t *testing.T) {
	d := probe.Dice(1502)
	found := make(map[api.KuraKind]int)
	for range 6000 {
		for _, g := range []api.Graph{paired(&d, 5, 4), paired(&d, 6, 3)} {
			recognisedRightly(t, g)
			found[ask(g).k.Kind]++
		}
	}
	if found[api.K5] < 20 || found[api.K33] < 20 || found[0] < 1000 {
		t.Fatalf("too few of one kind: %v", found)
	}
}
