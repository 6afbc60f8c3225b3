package blocks_test

import (
	"slices"
	"sync"
	"testing"

	"tangram/api"
	"tangram/blocks"
	"tangram/probe"
)

// TestNilAndEmpty: R4: a list of no edges may be nil or empty.
func TestNilAndEmpty(t *testing.T) {
	for _, n := range []int{0, 1, 2, 5} {
		for _, edges := range [][]api.Edge{nil, {}, make([]api.Edge, 0, 4)} {
			says(t, api.Graph{N: n, Edges: edges}, answers{})
		}
	}
}

// thrown: graphs of one block and of many, of one component and of several.
func thrown() []api.Graph {
	d := probe.Dice(97)
	graphs := []api.Graph{example().g, probe.Complete(5), probe.Cycle(7), probe.Path(6), probe.Star(6, 2)}
	for range 60 {
		g, _ := grown(&d, 1+d.Below(6))
		graphs = append(graphs, g, d.Graph(d.Below(12), d.Below(101)), d.Thin(2+d.Below(15), d.Below(6)))
	}
	return graphs
}

// askAll makes all calls, right ones and wrong ones.
func askAll(g api.Graph) {
	_, count, _ := blocks.Of(g)
	blocks.Cuts(g)
	blocks.Bridges(g)
	for k := -1; k <= count; k++ {
		blocks.Block(g, k)
	}
}

// TestArgumentsUnchanged: R5: the spare room, too; of graphs that are refused, too.
func TestArgumentsUnchanged(t *testing.T) {
	for round, g := range thrown() {
		if round%5 == 4 {
			slices.Reverse(g.Edges)
		}
		edges, whole := probe.Roomy(g.Edges, api.Edge{U: 0, V: 1})
		before := slices.Clone(whole)
		askAll(api.Graph{N: g.N, Edges: edges})
		if !slices.Equal(whole, before) {
			t.Fatalf("R5: the edges have been changed: %v, before %v", whole, before)
		}
	}
}

// writtenOver: an answer has been written over; the graph, with its spare room, is as it was, and so is what the calls answer.
func writtenOver(t *testing.T, what string, g api.Graph, before []api.Edge, want answers) {
	t.Helper()
	if now := g.Edges[:cap(g.Edges)]; !slices.Equal(now, before) {
		t.Fatalf("R5: %s written over, and the edges are %v, before %v", what, now, before)
	}
	says(t, g, want)
}

// TestAnswersOwnMemory: each list written over and appended to, with its spare room.
func TestAnswersOwnMemory(t *testing.T) {
	for _, g := range thrown() {
		g.Edges, _ = probe.Roomy(g.Edges, api.Edge{U: 0, V: 1})
		before := slices.Clone(g.Edges[:cap(g.Edges)])
		want := slow(g, byWaysRound(g))
		list, _ := of(t, g)
		probe.Spoil(list, -7)
		writtenOver(t, "Of", g, before, want)
		probe.Spoil(cuts(t, g), -7)
		writtenOver(t, "Cuts", g, before, want)
		probe.Spoil(bridges(t, g), -7)
		writtenOver(t, "Bridges", g, before, want)
		for k := range want.count {
			spoilBlock(t, g, k, want.blocks[k])
			writtenOver(t, "a block", g, before, want)
		}
	}
}

// spoilBlock writes over the one list of a block and then over the other: neither changes the other or another answer.
func spoilBlock(t *testing.T, g api.Graph, k int, want piece) {
	t.Helper()
	first, second, third := block(t, g, k), block(t, g, k), block(t, g, k)
	probe.Spoil(first.g.Edges, api.Edge{U: -7, V: -7})
	probe.Spoil(second.names, -7)
	if !slices.Equal(first.names, want.names) || !slices.Equal(second.g.Edges, want.g.Edges) || !samePiece(third, want) {
		t.Fatalf("R5: %v: block %d: written over, and the other lists are %v, %v, %v", g, k, first.names, second.g.Edges, third)
	}
}

// TestGraphIsNotKept: what the caller writes in the graph later is not to be seen in the answers, and is seen by the next call.
func TestGraphIsNotKept(t *testing.T) {
	x := example()
	g := x.g
	list, _ := of(t, g)
	cut, bridge, part := cuts(t, g), bridges(t, g), block(t, g, 2)
	other := probe.With(7, probe.Path(7).Edges...)
	other.Edges = append(other.Edges, api.Edge{U: 5, V: 6})
	other.Edges[5] = api.Edge{U: 4, V: 6} // a path with a triangle at its end
	copy(g.Edges, other.Edges)
	if !slices.Equal(list, x.want.of) || !slices.Equal(cut, x.want.cuts) || !slices.Equal(bridge, x.want.bridges) || !samePiece(part, x.want.blocks[2]) {
		t.Errorf("R5: the graph written over, and the answers are %v, %v, %v, %v", list, cut, bridge, part)
	}
	says(t, g, answers{
		of: []int{0, 1, 2, 3, 4, 4, 4}, count: 5, cuts: []int{1, 2, 3, 4}, bridges: []int{0, 1, 2, 3},
		blocks: []piece{edge(0, 1), edge(1, 2), edge(2, 3), edge(3, 4), triangle(4, 5, 6)},
	})
	g.Edges[0] = api.Edge{U: 1, V: 0}
	refused(t, g)
}

// TestEarlierCalls: R8: what has been called before is not to be seen, calls that went wrong among it; nor is the order in which a map is gone through.
func TestEarlierCalls(t *testing.T) {
	graphs := thrown()
	var before []answers
	for _, g := range graphs {
		before = append(before, slow(g, byWaysRound(g)))
		says(t, g, before[len(before)-1])
	}
	for i, g := range slices.Backward(graphs) {
		refused(t, probe.With(2, api.Edge{U: 1, V: 0}))
		rangeError(t, g, -1)
		for range 3 {
			says(t, g, before[i])
		}
	}
}

// TestSideBySide: R8: calls at the same time, of the same graph, keep out of each other's way.
func TestSideBySide(t *testing.T) {
	d := probe.Dice(98)
	g, from := grown(&d, 40)
	want := slow(g, func(e, f int) bool { return from[e] == from[f] })
	wrong := make([]bool, 8)
	var all sync.WaitGroup
	for worker := range wrong {
		all.Go(func() {
			for k := range want.count {
				list, count, code := blocks.Of(g)
				cut, code2 := blocks.Cuts(g)
				bridge, code3 := blocks.Bridges(g)
				part, names, code4 := blocks.Block(g, k)
				if code != api.OK || code2 != api.OK || code3 != api.OK || code4 != api.OK || count != want.count ||
					!slices.Equal(list, want.of) || !slices.Equal(cut, want.cuts) || !slices.Equal(bridge, want.bridges) || !samePiece(piece{part, names}, want.blocks[k]) {
					wrong[worker] = true
				}
			}
		})
	}
	all.Wait()
	if slices.Contains(wrong, true) {
		t.Error("R8: calls side by side answer something else")
	}
}
