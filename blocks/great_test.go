package blocks_test

import (
	"runtime/debug"
	"slices"
	"testing"

	"tangram/api"
	"tangram/probe"
)

// shallow: on so small a stack calls that went as deep as a graph is long would end the program.
func shallow() func() {
	before := debug.SetMaxStack(1 << 20)
	return func() { debug.SetMaxStack(before) }
}

// allBridges: what is said of a tree in which each vertex from first to last is a cut vertex.
func allBridges(t *testing.T, g api.Graph, first, last int) {
	t.Helper()
	edges := probe.Rising(len(g.Edges))
	if list, count := of(t, g); !slices.Equal(list, edges) || count != len(edges) {
		t.Errorf("P9.1: Of(%v): %d blocks", probe.Shown(g), count)
	}
	if list := cuts(t, g); !slices.Equal(list, probe.Rising(last + 1)[first:]) {
		t.Errorf("P9.2: Cuts(%v): %d vertices", probe.Shown(g), len(list))
	}
	if list := bridges(t, g); !slices.Equal(list, edges) {
		t.Errorf("P9.2: Bridges(%v): %d edges", probe.Shown(g), len(list))
	}
	for _, k := range []int{0, len(edges) / 2, len(edges) - 1} {
		if got := block(t, g, k); !samePiece(got, edge(g.Edges[k].U, g.Edges[k].V)) {
			t.Errorf("P9.3: Block(%v, %d): %v", probe.Shown(g), k, got)
		}
	}
	rangeError(t, g, len(edges))
	sumHolds(t, g)
}

// oneBlock: what is said of a graph without cut vertices and isolated ones.
func oneBlock(t *testing.T, g api.Graph) {
	t.Helper()
	if list, count := of(t, g); !slices.Equal(list, make([]int, len(g.Edges))) || count != 1 {
		t.Errorf("P9.1: Of(%v): %d blocks", probe.Shown(g), count)
	}
	if list := cuts(t, g); len(list) != 0 {
		t.Errorf("P9.2: Cuts(%v): %d vertices", probe.Shown(g), len(list))
	}
	if list := bridges(t, g); len(list) != 0 {
		t.Errorf("P9.2: Bridges(%v): %d edges", probe.Shown(g), len(list))
	}
	if got := block(t, g, 0); !samePiece(got, piece{g, probe.Rising(g.N)}) {
		t.Errorf("P9.3: Block(%v, 0) is another graph", probe.Shown(g))
	}
	rangeError(t, g, 1)
}

func TestGreatPath(t *testing.T) {
	defer shallow()()
	allBridges(t, probe.Path(api.MaxN), 1, api.MaxN-2)
}

func TestGreatCycle(t *testing.T) {
	defer shallow()()
	oneBlock(t, probe.Cycle(api.MaxN))
}

func TestGreatStars(t *testing.T) {
	for _, middle := range []int{0, api.MaxN / 2} {
		allBridges(t, probe.Star(api.MaxN, middle), middle, middle)
	}
}

// TestMostEdges: nearly a full graph.
func TestMostEdges(t *testing.T) {
	oneBlock(t, probe.Dense(api.MaxEdges))
}

func TestGreatWithoutEdges(t *testing.T) {
	g := probe.With(api.MaxN)
	if list, count := of(t, g); len(list) != 0 || count != 0 {
		t.Errorf("P9.1: Of(%v): %d edges, %d blocks", g, len(list), count)
	}
	if len(cuts(t, g)) != 0 || len(bridges(t, g)) != 0 {
		t.Errorf("P9.2: %v: %d cut vertices, %d bridges", g, len(cuts(t, g)), len(bridges(t, g)))
	}
	rangeError(t, g, 0)
}

// TestGreatChain: triangles, each hung on the one ahead of it: a walk that goes down all of them ahead of the first that is whole.
func TestGreatChain(t *testing.T) {
	const count = (api.MaxN - 1) / 2
	g := api.Graph{N: 2*count + 1}
	want := []int{}
	for k := range count {
		g.Edges = append(g.Edges, api.Edge{U: 2 * k, V: 2*k + 1}, api.Edge{U: 2 * k, V: 2*k + 2}, api.Edge{U: 2*k + 1, V: 2*k + 2})
		want = append(want, k, k, k)
	}
	defer shallow()()
	if list, got := of(t, g); !slices.Equal(list, want) || got != count {
		t.Errorf("P9.1: a chain of %d triangles: %d blocks", count, got)
	}
	list := cuts(t, g)
	if len(list) != count-1 || list[0] != 2 || list[count-2] != 2*count-2 {
		t.Errorf("P9.2: a chain of %d triangles: %d cut vertices", count, len(list))
	}
	if list := bridges(t, g); len(list) != 0 {
		t.Errorf("P9.2: a chain of %d triangles: %d bridges", count, len(list))
	}
	for _, k := range []int{0, count / 2, count - 1} {
		if got := block(t, g, k); !samePiece(got, triangle(2*k, 2*k+1, 2*k+2)) {
			t.Errorf("P9.3: a chain of %d triangles: Block %d: %v", count, k, got)
		}
	}
	sumHolds(t, g)
}

// TestGreatGrown: very many blocks, of all kinds, under names that are mixed.
func TestGreatGrown(t *testing.T) {
	d := probe.Dice(96)
	const count = 100_000
	g, from := grown(&d, count)
	defer shallow()()
	if list, got := of(t, g); !slices.Equal(list, numbered(from)) || got != count {
		t.Errorf("P9.1: a graph of %d blocks: %d", count, got)
	}
	sumHolds(t, g)
	last := slowPiece(g, edgesOf(numbered(from), count-1))
	if got := block(t, g, count-1); !samePiece(got, last) {
		t.Errorf("P9.3: a graph of %d blocks: the last one: %v, want %v", count, got, last)
	}
}

// edgesOf: the edges of a block.
func edgesOf(of []int, k int) []int {
	var list []int
	for e, is := range of {
		if is == k {
			list = append(list, e)
		}
	}
	return list
}
