package blocks_test

import (
	"slices"
	"testing"

	"tangram/api"
	"tangram/comps"
	"tangram/probe"
)

// pieces: all blocks of a graph.
func pieces(t *testing.T, g api.Graph) []piece {
	t.Helper()
	_, count := of(t, g)
	var list []piece
	for k := range count {
		list = append(list, block(t, g, k))
	}
	return list
}

// TestEachEdgeInOneBlock: P9.4: and Of says in which; each block's edges are those of the graph under other names, in their order.
func TestEachEdgeInOneBlock(t *testing.T) {
	for _, g := range many() {
		number := make(map[api.Edge]int)
		for e, ends := range g.Edges {
			number[ends] = e
		}
		times := make([]int, len(g.Edges))
		list, _ := of(t, g)
		for k, x := range pieces(t, g) {
			if !slices.IsSorted(x.names) || len(x.names) != x.g.N {
				t.Fatalf("P9.3: %v: the vertices of block %d: %v of %d", g, k, x.names, x.g.N)
			}
			last := -1
			for _, ends := range x.g.Edges {
				e, there := number[api.Edge{U: x.names[ends.U], V: x.names[ends.V]}]
				if !there || list[e] != k || e <= last {
					t.Fatalf("P9.3: P9.4: %v: block %d has %v, the edge %d of block %d", g, k, ends, e, list[e])
				}
				times[e]++
				last = e
			}
		}
		if slices.ContainsFunc(times, func(count int) bool { return count != 1 }) {
			t.Fatalf("P9.4: %v: how many blocks the edges are in: %v", g, times)
		}
	}
}

// TestNumbersByLeastEdges: P9.1.
func TestNumbersByLeastEdges(t *testing.T) {
	for _, g := range many() {
		list, count := of(t, g)
		if want := numbered(list); !slices.Equal(list, want) {
			t.Fatalf("P9.1: Of(%v): %v, by least edges %v", g, list, want)
		}
		if len(list) > 0 && slices.Max(list) != count-1 || len(list) == 0 && count != 0 {
			t.Fatalf("P9.1: Of(%v): %v, %d blocks", g, list, count)
		}
	}
}

// TestBlocksMeetInCuts: P9.4: two of them in one vertex at most.
func TestBlocksMeetInCuts(t *testing.T) {
	for _, g := range many() {
		list := cuts(t, g)
		all := pieces(t, g)
		met := make(map[int]bool)
		for k, x := range all {
			for j, y := range all[:k] {
				common := slices.DeleteFunc(slices.Clone(x.names), func(v int) bool { return !slices.Contains(y.names, v) })
				if len(common) > 1 || len(common) == 1 && !slices.Contains(list, common[0]) {
					t.Fatalf("P9.4: %v: the blocks %d and %d have %v in common; cut vertices are %v", g, j, k, common, list)
				}
				for _, v := range common {
					met[v] = true
				}
			}
		}
		if len(met) != len(list) {
			t.Fatalf("P9.4: %v: blocks meet in %v; cut vertices are %v", g, met, list)
		}
	}
}

// TestBlocksOfBlocks: P9.4: a block is one block, and without cut vertices, without bridges if it has two edges or more.
func TestBlocksOfBlocks(t *testing.T) {
	for _, g := range many() {
		for k, x := range pieces(t, g) {
			want := whole(x.g)
			if len(x.g.Edges) == 1 {
				want.bridges = []int{0}
			}
			says(t, x.g, want)
			if _, count := of(t, x.g); count != 1 {
				t.Fatalf("P9.4: %v: the block %d falls into %d", g, k, count)
			}
		}
	}
}

// TestCyclesThroughTwoVertices: P9.4: of a block of two edges or more.
func TestCyclesThroughTwoVertices(t *testing.T) {
	d := probe.Dice(95)
	var graphs []api.Graph
	for n := range 6 {
		graphs = append(graphs, probe.Graphs(n)...)
	}
	for range 100 {
		graphs = append(graphs, d.Graph(6+d.Below(2), 20+d.Below(40)), d.Thin(8+d.Below(8), d.Below(6)))
	}
	for _, g := range graphs {
		for k, x := range pieces(t, g) {
			if len(x.g.Edges) > 1 && !allOnCycles(x.g) {
				t.Fatalf("P9.4: %v: the block %d has two vertices through which no cycle goes", g, k)
			}
		}
	}
}

// allOnCycles: does a cycle go through any two vertices?
func allOnCycles(g api.Graph) bool {
	together := make(map[[2]int]bool)
	for _, cycle := range cycles(g) {
		var on []int
		for _, e := range cycle {
			on = append(on, g.Edges[e].U, g.Edges[e].V)
		}
		for _, v := range on {
			for _, w := range on {
				together[[2]int{v, w}] = true
			}
		}
	}
	return len(together) == g.N*g.N
}

// TestSumOverVertices: P9.4.
func TestSumOverVertices(t *testing.T) {
	for _, g := range many() {
		sumHolds(t, g)
	}
}

// sumHolds: over the vertices that are in a block, in how many they are, less one each; that is the number of blocks less that of components with an edge.
func sumHolds(t *testing.T, g api.Graph) {
	t.Helper()
	list, count := of(t, g)
	in := make([][]int, g.N) // by vertex, the blocks that it is in
	for e, ends := range g.Edges {
		in[ends.U] = append(in[ends.U], list[e])
		in[ends.V] = append(in[ends.V], list[e])
	}
	sum := 0
	for _, all := range in {
		slices.Sort(all)
		sum += max(0, len(slices.Compact(all))-1)
	}
	_, components, _ := comps.Of(g)
	isolated, _ := comps.Isolated(g)
	if sum != count-(components-isolated) {
		t.Fatalf("P9.4: %v: the sum is %d; %d blocks, %d components with an edge", probe.Shown(g), sum, count, components-isolated)
	}
}

// TestWithoutCutVertices: a cut vertex is one without which its component falls apart.
func TestWithoutCutVertices(t *testing.T) {
	for _, g := range many() {
		list := cuts(t, g)
		_, before, _ := comps.Of(g)
		for v := range g.N {
			_, after, _ := comps.Of(without(g, v)) // v stands there still, for itself
			if (after > before+1) != slices.Contains(list, v) {
				t.Fatalf("P9.2: %v: %d components, %d with %d cut off; cut vertices are %v", g, before, after, v, list)
			}
		}
	}
}

// TestWithoutBridges: a bridge is an edge without which there is a component more.
func TestWithoutBridges(t *testing.T) {
	for _, g := range many() {
		list := bridges(t, g)
		_, before, _ := comps.Of(g)
		for e := range g.Edges {
			_, after, _ := comps.Of(api.Graph{N: g.N, Edges: slices.Delete(slices.Clone(g.Edges), e, e+1)})
			if (after > before) != slices.Contains(list, e) {
				t.Fatalf("P9.2: %v: %d components, %d without the edge %d; bridges are %v", g, before, after, e, list)
			}
		}
	}
}
