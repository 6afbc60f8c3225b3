package blocks_test

import (
	"math"
	"slices"
	"testing"

	"tangram/api"
	"tangram/blocks"
	"tangram/probe"
)

// answers: all that the calls say of a graph.
type answers struct {
	of            []int
	count         int
	cuts, bridges []int
	blocks        []piece // by number
}

// piece: a block as Block answers it.
type piece struct {
	g     api.Graph
	names []int
}

func samePiece(a, b piece) bool {
	return a.g.N == b.g.N && slices.Equal(a.g.Edges, b.g.Edges) && slices.Equal(a.names, b.names)
}

func of(t *testing.T, g api.Graph) ([]int, int) {
	t.Helper()
	list, count, code := blocks.Of(g)
	if code != api.OK {
		t.Fatalf("P9.1: Of(%v): %d", probe.Shown(g), code)
	}
	return list, count
}

func cuts(t *testing.T, g api.Graph) []int {
	t.Helper()
	list, code := blocks.Cuts(g)
	if code != api.OK {
		t.Fatalf("P9.2: Cuts(%v): %d", probe.Shown(g), code)
	}
	return list
}

func bridges(t *testing.T, g api.Graph) []int {
	t.Helper()
	list, code := blocks.Bridges(g)
	if code != api.OK {
		t.Fatalf("P9.2: Bridges(%v): %d", probe.Shown(g), code)
	}
	return list
}

func block(t *testing.T, g api.Graph, k int) piece {
	t.Helper()
	part, names, code := blocks.Block(g, k)
	if code != api.OK {
		t.Fatalf("P9.3: Block(%v, %d): %d", probe.Shown(g), k, code)
	}
	return piece{part, names}
}

// says: the calls answer just this.
func says(t *testing.T, g api.Graph, want answers) {
	t.Helper()
	if list, count := of(t, g); !slices.Equal(list, want.of) || count != want.count {
		t.Fatalf("P9.1: Of(%v): %v, %d, want %v, %d", g, list, count, want.of, want.count)
	}
	if list := cuts(t, g); !slices.Equal(list, want.cuts) {
		t.Fatalf("P9.2: Cuts(%v): %v, want %v", g, list, want.cuts)
	}
	if list := bridges(t, g); !slices.Equal(list, want.bridges) {
		t.Fatalf("P9.2: Bridges(%v): %v, want %v", g, list, want.bridges)
	}
	for k, part := range want.blocks {
		if got := block(t, g, k); !samePiece(got, part) {
			t.Fatalf("P9.3: Block(%v, %d): %v, want %v", g, k, got, part)
		}
	}
	for _, k := range []int{-1, want.count} {
		rangeError(t, g, k)
	}
}

func rangeError(t *testing.T, g api.Graph, k int) {
	t.Helper()
	if part, names, code := blocks.Block(g, k); code != api.ErrRange || part.N != 0 || len(part.Edges) != 0 || len(names) != 0 {
		t.Fatalf("P9.3: R3: Block(%v, %d): %v, %v, %d, want ErrRange and nothing", probe.Shown(g), k, part, names, code)
	}
}

// graph: ends two by two, as they are told.
func graph(n int, ends ...int) api.Graph {
	g := api.Graph{N: n}
	for i := 0; i < len(ends); i += 2 {
		g.Edges = append(g.Edges, api.Edge{U: ends[i], V: ends[i+1]})
	}
	return g
}

// known is a graph with what is to be said of it, by hand.
type known struct {
	name string
	g    api.Graph
	want answers
}

func edge(u, v int) piece { return piece{graph(2, 0, 1), []int{u, v}} }

func triangle(u, v, w int) piece { return piece{graph(3, 0, 1, 0, 2, 1, 2), []int{u, v, w}} }

func whole(g api.Graph) answers {
	return answers{of: make([]int, len(g.Edges)), count: 1, blocks: []piece{{g, probe.Rising(g.N)}}}
}

// example is the chapter's.
func example() known {
	return known{"the chapter's example", graph(7, 0, 1, 0, 2, 1, 2, 2, 3, 3, 4, 3, 5, 4, 5), answers{
		of: []int{0, 0, 0, 1, 2, 2, 2}, count: 3, cuts: []int{2, 3}, bridges: []int{3},
		blocks: []piece{triangle(0, 1, 2), edge(2, 3), triangle(3, 4, 5)},
	}}
}

func bare() []known {
	return []known{
		{"no vertices", graph(0), answers{}},
		{"one vertex", graph(1), answers{}},
		{"no edges", graph(3), answers{}},
		{"one edge", graph(2, 0, 1), answers{of: []int{0}, count: 1, bridges: []int{0}, blocks: []piece{edge(0, 1)}}},
		{"one edge among isolated vertices", graph(9, 3, 7), answers{of: []int{0}, count: 1, bridges: []int{0}, blocks: []piece{edge(3, 7)}}},
	}
}

func trees() []known {
	return []known{
		{"a path", probe.Path(4), answers{
			of: []int{0, 1, 2}, count: 3, cuts: []int{1, 2}, bridges: []int{0, 1, 2}, blocks: []piece{edge(0, 1), edge(1, 2), edge(2, 3)},
		}},
		{"a path, its root within", graph(5, 0, 3, 0, 4, 1, 3, 2, 4), answers{
			of: []int{0, 1, 2, 3}, count: 4, cuts: []int{0, 3, 4}, bridges: []int{0, 1, 2, 3}, blocks: []piece{edge(0, 3), edge(0, 4), edge(1, 3), edge(2, 4)},
		}},
		{"a star from its middle", probe.Star(4, 0), answers{
			of: []int{0, 1, 2}, count: 3, cuts: []int{0}, bridges: []int{0, 1, 2}, blocks: []piece{edge(0, 1), edge(0, 2), edge(0, 3)},
		}},
		{"a star from a tip", probe.Star(4, 3), answers{
			of: []int{0, 1, 2}, count: 3, cuts: []int{3}, bridges: []int{0, 1, 2}, blocks: []piece{edge(0, 3), edge(1, 3), edge(2, 3)},
		}},
	}
}

func ones() []known {
	theta := graph(5, 0, 1, 0, 2, 0, 3, 1, 4, 2, 4, 3, 4)
	chord := graph(4, 0, 1, 0, 2, 0, 3, 1, 2, 2, 3)
	return []known{
		{"a triangle", probe.Cycle(3), whole(probe.Cycle(3))},
		{"a cycle", probe.Cycle(6), whole(probe.Cycle(6))},
		{"a full graph", probe.Complete(5), whole(probe.Complete(5))},
		{"cycles that share an edge", chord, whole(chord)},
		{"cycles that share two vertices", theta, whole(theta)},
	}
}

func joined() []known {
	return []known{
		example(),
		{"triangles that share the root", graph(5, 0, 1, 0, 2, 0, 3, 0, 4, 1, 2, 3, 4), answers{
			of: []int{0, 0, 1, 1, 0, 1}, count: 2, cuts: []int{0}, blocks: []piece{triangle(0, 1, 2), triangle(0, 3, 4)},
		}},
		{"triangles that share another vertex, their edges mixed", graph(5, 0, 2, 0, 4, 1, 2, 1, 3, 2, 3, 2, 4), answers{
			of: []int{0, 0, 1, 1, 1, 0}, count: 2, cuts: []int{2}, blocks: []piece{triangle(0, 2, 4), triangle(1, 2, 3)},
		}},
		{"the block that is whole first isn't the first one", graph(4, 0, 2, 0, 3, 1, 2, 2, 3), answers{
			of: []int{0, 0, 1, 0}, count: 2, cuts: []int{2}, bridges: []int{2}, blocks: []piece{triangle(0, 2, 3), edge(1, 2)},
		}},
		{"a chain of blocks, with a twig within", graph(8, 0, 1, 1, 2, 1, 3, 2, 3, 3, 4, 3, 7, 4, 5, 4, 6, 5, 6), answers{
			of: []int{0, 1, 1, 1, 2, 3, 4, 4, 4}, count: 5, cuts: []int{1, 3, 4}, bridges: []int{0, 4, 5},
			blocks: []piece{edge(0, 1), triangle(1, 2, 3), edge(3, 4), edge(3, 7), triangle(4, 5, 6)},
		}},
		{"several components", graph(9, 0, 8, 1, 3, 1, 5, 2, 7, 3, 5, 4, 7), answers{
			of: []int{0, 1, 1, 2, 1, 3}, count: 4, cuts: []int{7}, bridges: []int{0, 3, 5},
			blocks: []piece{edge(0, 8), triangle(1, 3, 5), edge(2, 7), edge(4, 7)},
		}},
	}
}

func all() []known { return slices.Concat(bare(), trees(), ones(), joined()) }

func TestKnownAnswers(t *testing.T) {
	for _, c := range all() {
		t.Run(c.name, func(t *testing.T) { says(t, c.g, c.want) })
	}
}

// TestBlocksWithinAndAround: a cycle hung on another by a bridge, with the bridge's number ahead of both, between and behind.
func TestBlocksWithinAndAround(t *testing.T) {
	says(t, graph(6, 0, 1, 0, 2, 0, 3, 1, 4, 1, 5, 2, 3, 4, 5), answers{
		of: []int{0, 1, 1, 2, 2, 1, 2}, count: 3, cuts: []int{0, 1}, bridges: []int{0}, blocks: []piece{edge(0, 1), triangle(0, 2, 3), triangle(1, 4, 5)},
	})
	says(t, graph(6, 0, 1, 0, 2, 1, 2, 1, 3, 3, 4, 3, 5, 4, 5), answers{
		of: []int{0, 0, 0, 1, 2, 2, 2}, count: 3, cuts: []int{1, 3}, bridges: []int{3}, blocks: []piece{triangle(0, 1, 2), edge(1, 3), triangle(3, 4, 5)},
	})
	says(t, graph(6, 0, 2, 0, 5, 1, 3, 1, 4, 2, 5, 3, 4, 4, 5), answers{
		of: []int{0, 0, 1, 1, 0, 1, 2}, count: 3, cuts: []int{4, 5}, bridges: []int{6}, blocks: []piece{triangle(0, 2, 5), triangle(1, 3, 4), edge(4, 5)},
	})
}

// noBlocks: numbers that no block has, of a graph of so many blocks.
func noBlocks(count int) []int {
	return []int{-1, -2, count, count + 1, -count - 1, api.MaxEdges, 1 << 32, -1 << 32, math.MinInt64, math.MinInt64 + 1, math.MaxInt64, math.MaxInt64 - 1}
}

func TestNumbersOfNoBlock(t *testing.T) {
	for _, c := range all() {
		for _, k := range noBlocks(c.want.count) {
			rangeError(t, c.g, k)
		}
	}
}

// TestTheLastBlock: the greatest number that a block has, and the one behind it.
func TestTheLastBlock(t *testing.T) {
	for _, c := range all() {
		if last := c.want.count - 1; last >= 0 {
			if got := block(t, c.g, last); !samePiece(got, c.want.blocks[last]) {
				t.Errorf("P9.3: Block of %s, %d: %v, want %v", c.name, last, got, c.want.blocks[last])
			}
		}
		rangeError(t, c.g, c.want.count)
	}
}

// refused: ErrGraph and nothing else, whatever the number of the block.
func refused(t *testing.T, g api.Graph) {
	t.Helper()
	if list, count, code := blocks.Of(g); code != api.ErrGraph || len(list) != 0 || count != 0 {
		t.Fatalf("P9.1: R3: Of(%v): %v, %d, %d", probe.Shown(g), list, count, code)
	}
	if list, code := blocks.Cuts(g); code != api.ErrGraph || len(list) != 0 {
		t.Fatalf("P9.2: R3: Cuts(%v): %v, %d", probe.Shown(g), list, code)
	}
	if list, code := blocks.Bridges(g); code != api.ErrGraph || len(list) != 0 {
		t.Fatalf("P9.2: R3: Bridges(%v): %v, %d", probe.Shown(g), list, code)
	}
	for _, k := range append(noBlocks(1), 0) {
		if part, names, code := blocks.Block(g, k); code != api.ErrGraph || part.N != 0 || len(part.Edges) != 0 || len(names) != 0 {
			t.Fatalf("P9.3: R2: R3: Block(%v, %d): %v, %v, %d", probe.Shown(g), k, part, names, code)
		}
	}
}

func TestGraphsThatAreNotValid(t *testing.T) {
	for _, g := range probe.Invalid() {
		refused(t, g)
	}
}

// TestGraphsWithOneFault: the example is answered, and with one edge changed refused.
func TestGraphsWithOneFault(t *testing.T) {
	for e := range example().g.Edges {
		for _, wrong := range []api.Edge{{U: 1, V: 0}, {U: 5, V: 5}, {U: 0, V: 7}, {U: -1, V: 2}, {U: math.MinInt64, V: math.MaxInt64}} {
			g := example().g
			g.Edges[e] = wrong
			refused(t, g)
		}
	}
	says(t, example().g, example().want)
}
