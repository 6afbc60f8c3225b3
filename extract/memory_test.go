package extract_test

import (
	"runtime"
	"slices"
	"sync"
	"testing"

	"tangram/api"
	"tangram/probe"
)

// TestNilAndEmpty: R4: a list of edges without elements may be nil or empty.
func TestNilAndEmpty(t *testing.T) {
	for _, edges := range [][]api.Edge{nil, {}, make([]api.Edge, 0, 4)} {
		for _, n := range []int{0, 1, 2, 3, 5, 9} {
			refuses(t, api.Graph{N: n, Edges: edges}, api.ErrPlanar)
		}
	}
}

// handed: graphs with spare room that is filled, planar ones and such as aren't valid among them; and each with that room.
func handed() (graphs []api.Graph, rooms [][]api.Edge) {
	d := probe.Dice(1613)
	all := []api.Graph{
		k5(), k33(), probe.Complete(6), probe.Complete(4), probe.With(0), probe.With(3), probe.OfEnds(2, 1, 0), probe.With(4, k5().Edges...),
		probe.Beside(k5(), k5()), probe.Beside(probe.With(3), probe.DividedAll(k33(), 2)),
	}
	for range 10 {
		all = append(all, thrown(&d, 4+d.Below(20))...)
	}
	for _, g := range all {
		list, room := probe.Roomy(g.Edges, api.Edge{U: 0, V: 1})
		graphs, rooms = append(graphs, api.Graph{N: g.N, Edges: list}), append(rooms, room)
	}
	return graphs, rooms
}

func (a answer) copied() answer { return answer{slices.Clone(a.list), a.code} }

// TestGraphUnchanged: R5, P16.4: with its spare room; a graph that is refused, too.
func TestGraphUnchanged(t *testing.T) {
	graphs, rooms := handed()
	for i, g := range graphs {
		before := slices.Clone(rooms[i])
		ask(g)
		if !slices.Equal(rooms[i], before) {
			t.Fatalf("R5: P16.4: %v: the edges are now %v", before, rooms[i])
		}
	}
}

// TestListsOwnMemory: R5, P16.4: the list written over and appended to, with its spare room: the graph is as it was, and so are an answer from before and the next one.
func TestListsOwnMemory(t *testing.T) {
	graphs, rooms := handed()
	for i, g := range graphs {
		before := slices.Clone(rooms[i])
		earlier := ask(g)
		want := earlier.copied()
		probe.Spoil(ask(g).list, -7)
		if !slices.Equal(rooms[i], before) || !same(earlier, want) || !same(ask(g), want) {
			t.Fatalf("R5: P16.4: %v: a list written over, and others are %v, %v, want %v", before, earlier, ask(g), want)
		}
	}
}

// TestNothingIsKept: R5, P16.4: what the caller writes later in the edges is not to be seen in the list, and is seen by the next call.
func TestNothingIsKept(t *testing.T) {
	graphs, rooms := handed()
	for i, g := range graphs {
		got := ask(g)
		want := got.copied()
		probe.Spoil(rooms[i], api.Edge{U: -7, V: -7})
		if !same(got, want) {
			t.Fatalf("R5: P16.4: the edges written over, and the answer is %v, before %v", got, want)
		}
		if len(g.Edges) > 0 {
			refuses(t, g, api.ErrGraph)
		}
	}
}

// TestEarlierCalls: R8: what has been called before is not to be seen, calls that went wrong among it.
func TestEarlierCalls(t *testing.T) {
	graphs, _ := handed()
	var answers []answer
	for _, g := range graphs {
		answers = append(answers, ask(g))
	}
	for range 3 {
		for i, g := range slices.Backward(graphs) {
			refuses(t, probe.OfEnds(2, 1, 0), api.ErrGraph)
			refuses(t, probe.Complete(4), api.ErrPlanar)
			says(t, g, answers[i])
		}
	}
}

// TestSideBySide: R8: calls at the same time, of the same lists, keep out of each other's way.
func TestSideBySide(t *testing.T) {
	graphs, _ := handed()
	var answers []answer
	for _, g := range graphs {
		answers = append(answers, ask(g))
	}
	wrong := make([]bool, 8)
	var workers sync.WaitGroup
	for worker := range wrong {
		workers.Go(func() {
			for i, g := range graphs {
				if !same(ask(g), answers[i]) {
					wrong[worker] = true
				}
			}
		})
	}
	workers.Wait()
	if slices.Contains(wrong, true) {
		t.Error("R8: calls side by side answer something else")
	}
}

// TestWorkShared: R8: on however many processors the halves of the search run.
func TestWorkShared(t *testing.T) {
	before := runtime.GOMAXPROCS(0)
	defer runtime.GOMAXPROCS(before)
	graphs, _ := handed()
	var answers []answer
	for _, g := range graphs {
		answers = append(answers, ask(g))
	}
	for _, processors := range []int{1, 2, 3} {
		runtime.GOMAXPROCS(processors)
		for i, g := range graphs {
			says(t, g, answers[i])
		}
	}
}

// TestNothingRunsOn: all goroutines have ended when the call answers; the last steps of one that has told so may take a moment.
func TestNothingRunsOn(t *testing.T) {
	before := runtime.NumGoroutine()
	graphs, _ := handed()
	for _, g := range graphs {
		ask(g)
	}
	for range 1000 {
		if runtime.NumGoroutine() <= before {
			return
		}
		runtime.Gosched()
	}
	t.Errorf("%d goroutines, before %d", runtime.NumGoroutine(), before)
}
