package kura_test

import (
	"slices"
	"sync"
	"testing"

	"tangram/api"
	"tangram/kura"
	"tangram/probe"
)

// TestNilAndEmpty: R4: a list of edges without elements may be nil or empty.
func TestNilAndEmpty(t *testing.T) {
	for _, edges := range [][]api.Edge{nil, {}, make([]api.Edge, 0, 4)} {
		for _, n := range []int{0, 1, 5} {
			chained(t, api.Graph{N: n, Edges: edges})
			refuses(t, "no edges", api.Graph{N: n, Edges: edges})
		}
	}
}

// both: what the two calls say of a graph.
type both struct {
	answer
	chains [][]int
	code   api.Errno
}

func askBoth(g api.Graph) both {
	list, code := kura.Chains(g)
	return both{ask(g), list, code}
}

func sameBoth(a, b both) bool {
	return same(a.answer, b.answer) && a.code == b.code && probe.SameLists(a.chains, b.chains)
}

// copied: in memory of its own.
func (a both) copied() both {
	a.k.Branch = slices.Clone(a.k.Branch)
	a.k.Paths = probe.CopyLists(a.k.Paths)
	a.chains = probe.CopyLists(a.chains)
	return a
}

// lists: all lists of numbers in it.
func (a both) lists() [][]int { return slices.Concat([][]int{a.k.Branch}, a.k.Paths, a.chains) }

// handed: graphs with spare room that is filled, subdivisions, others and such as aren't valid among them; and each with that room.
func handed() (graphs []api.Graph, rooms [][]api.Edge) {
	d := probe.Dice(1509)
	all := []api.Graph{
		k5(), k33(), prism(), probe.With(0), probe.With(3), probe.Cycle(5), probe.OfEnds(2, 1, 0), probe.With(4, k5().Edges...),
		probe.Beside(k5(), probe.Cycle(3)), probe.Hung(k33(), 0, probe.Path(3), 1), probe.OfEnds(7, 0, 1, 0, 2, 1, 2, 2, 3, 4, 5, 4, 6, 5, 6),
	}
	for round := range 30 {
		all = append(all, made(&d, api.K5, round%5).graph, made(&d, api.K33, round%5).graph, paired(&d, 5, 4), paired(&d, 6, 3), d.Thin(2+d.Below(20), d.Below(10)))
	}
	for _, g := range all {
		list, room := probe.Roomy(g.Edges, api.Edge{U: 0, V: 1})
		graphs, rooms = append(graphs, api.Graph{N: g.N, Edges: list}), append(rooms, room)
	}
	return graphs, rooms
}

// TestArgumentsUnchanged: R5: with their spare room; of graphs that are refused, too.
func TestArgumentsUnchanged(t *testing.T) {
	graphs, rooms := handed()
	for i, g := range graphs {
		before := slices.Clone(rooms[i])
		askBoth(g)
		if !slices.Equal(rooms[i], before) {
			t.Fatalf("R5: %v: the edges are now %v", before, rooms[i])
		}
	}
}

// TestAnswersOwnMemory: R5: each list of an answer is written over and appended to, with its spare room: the graph is as it was, and so are the answer's other lists, an answer from before, and the next one.
func TestAnswersOwnMemory(t *testing.T) {
	graphs, rooms := handed()
	for i, g := range graphs {
		before := slices.Clone(rooms[i])
		earlier := askBoth(g)
		want := earlier.copied()
		for place := range want.lists() {
			got := askBoth(g)
			probe.Spoil(got.lists()[place], -7)
			others, wanted := slices.Delete(got.lists(), place, place+1), slices.Delete(want.lists(), place, place+1)
			if !probe.SameLists(others, wanted) {
				t.Fatalf("R5: %v: one list written over, and the others are %v, want %v", g, others, wanted)
			}
		}
		got := askBoth(g)
		probe.Spoil(got.k.Paths, []int{-7})
		if !probe.SameLists(got.chains, want.chains) {
			t.Fatalf("R5: %v: the paths written over, and the chains are %v, want %v", g, got.chains, want.chains)
		}
		probe.Spoil(got.chains, []int{-7})
		if !slices.Equal(rooms[i], before) || !sameBoth(earlier, want) || !sameBoth(askBoth(g), want) {
			t.Fatalf("R5: %v: answers written over, and others are %v, %v, want %v", before, earlier, askBoth(g), want)
		}
	}
}

// TestNothingIsKept: R5: what the caller writes later in its edges is not to be seen in the answers, and is seen by the next call.
func TestNothingIsKept(t *testing.T) {
	graphs, rooms := handed()
	for i, g := range graphs {
		got := askBoth(g)
		want := got.copied()
		probe.Spoil(rooms[i], api.Edge{U: -7, V: -7})
		if !sameBoth(got, want) {
			t.Fatalf("R5: the edges written over, and the answer is %v, before %v", got, want)
		}
		if len(g.Edges) > 0 && (askBoth(g).code != api.ErrGraph || ask(g).code != api.ErrGraph) {
			t.Fatalf("R5: the edges written over, and the next answer is %v, want ErrGraph", askBoth(g))
		}
	}
}

// TestEarlierCalls: R8: what has been called before is not to be seen, calls that went wrong among it.
func TestEarlierCalls(t *testing.T) {
	graphs, _ := handed()
	var answers []both
	for _, g := range graphs {
		answers = append(answers, askBoth(g))
	}
	for range 3 {
		for i, g := range slices.Backward(graphs) {
			ask(probe.OfEnds(2, 1, 0))
			if got := askBoth(g); !sameBoth(got, answers[i]) {
				t.Fatalf("R8: %v: %v, before %v", g, got, answers[i])
			}
		}
	}
}

// TestSideBySide: R8: calls at the same time, of the same lists, keep out of each other's way.
func TestSideBySide(t *testing.T) {
	graphs, _ := handed()
	var answers []both
	for _, g := range graphs {
		answers = append(answers, askBoth(g))
	}
	wrong := make([]bool, 8)
	var workers sync.WaitGroup
	for worker := range wrong {
		workers.Go(func() {
			for i, g := range graphs {
				if !sameBoth(askBoth(g), answers[i]) {
					wrong[worker] = true
				}
			}
		})
	}
	workers.Wait()
	if slices.Contains(wrong, true) {
		t.Error("R8: calls side by side answer something else")
	}
}
