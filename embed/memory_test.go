package embed_test

import (
	"slices"
	"sync"
	"testing"

	"tangram/api"
	"tangram/embed"
	"tangram/probe"
)

// TestNilAndEmpty: R4: lists without elements may be nil or empty; a list of no lists is another thing than one of empty ones.
func TestNilAndEmpty(t *testing.T) {
	for _, n := range []int{0, 1, 5} {
		for _, edges := range [][]api.Edge{nil, {}, make([]api.Edge, 0, 4)} {
			g := api.Graph{N: n, Edges: edges}
			if r := embedded(t, "R4: no edges", g); len(r) != n {
				t.Errorf("R4: %v: %v", g, r)
			}
			for _, p := range []api.Partition{nil, {}, make(api.Partition, 0, 4)} {
				if r := from(t, g, p); len(r) != n {
					t.Errorf("R4: %v, %v: %v", g, p, r)
				}
			}
		}
	}
}

// asked is a graph with a partition, each in a list with spare room, and these lists with their room.
type asked struct {
	g     api.Graph
	p     api.Partition
	edges []api.Edge
	sides []int
}

func asking(g api.Graph, p api.Partition) asked {
	x := asked{g: g}
	x.g.Edges, x.edges = probe.Roomy(g.Edges, api.Edge{U: 0, V: 1})
	x.p, x.sides = probe.Roomy([]int(p), 1)
	return x
}

func (x asked) same(y asked) bool {
	return slices.Equal(x.edges, y.edges) && slices.Equal(x.sides, y.sides)
}

// thrown: planar graphs and others, with partitions of their walks, aligned left-right ones and others.
func thrown(t *testing.T) []asked {
	t.Helper()
	d := probe.Dice(1311)
	var all []asked
	graphs := []api.Graph{probe.Complete(4), probe.Complete(5), probe.TwoPart(3, 3), probe.Wheel(5), probe.Path(4), probe.With(3), probe.With(0), probe.Beside(probe.Wheel(4), probe.With(2), probe.Cycle(3))}
	for range 60 {
		n := 3 + d.Below(12)
		graphs = append(graphs, d.Triangles(n, n), d.Thin(n, d.Below(8)), d.Graph(n, d.Below(101)))
	}
	for _, g := range graphs {
		all = append(all, asking(g, d.Partition(g, walk(t, g))))
		if _, ok, _ := embed.Embed(g); ok {
			all = append(all, asking(g, partition(t, g)), asking(g, probe.SidesTurned(partition(t, g))))
		}
	}
	return all
}

// answers is what both calls tell.
type answers struct {
	embedded  api.Rotation
	planar    bool
	given     api.Rotation
	first, by api.Errno
}

func (x asked) answers() answers {
	var a answers
	a.embedded, a.planar, a.first = embed.Embed(x.g)
	a.given, a.by = embed.From(x.g, x.p)
	return a
}

func (a answers) same(b answers) bool {
	return probe.SameLists(a.embedded, b.embedded) && a.planar == b.planar && a.first == b.first && probe.SameLists(a.given, b.given) && a.by == b.by
}

// TestBothAreThrown: planar graphs and others, partitions that are taken and such as are refused.
func TestBothAreThrown(t *testing.T) {
	var planar, taken tally
	for _, x := range thrown(t) {
		a := x.answers()
		planar.add(a.planar)
		taken.add(a.by == api.OK)
	}
	planar.both(t, 20)
	taken.both(t, 20)
}

// TestArgumentsUnchanged: R5, P13.3: with their spare room; of what is taken and of what is refused.
func TestArgumentsUnchanged(t *testing.T) {
	for _, x := range thrown(t) {
		backward := slices.Clone(x.g.Edges)
		slices.Reverse(backward)
		for _, y := range []asked{x, asking(api.Graph{N: x.g.N, Edges: backward}, x.p), asking(x.g, append(slices.Clone(x.p), 1))} {
			before := asked{edges: slices.Clone(y.edges), sides: slices.Clone(y.sides)}
			y.answers()
			if !y.same(before) {
				t.Fatalf("R5: P13.3: handed in was %+v, it is now %+v", before, y)
			}
		}
	}
}

// ownMemory: each list of an answer is written over and appended to, with its spare room, then the list of them: what was handed in is as it was, so are the answer's other lists, and so are another answer and the next one.
func ownMemory(t *testing.T, what string, x asked, make func() api.Rotation) {
	t.Helper()
	before := asked{edges: slices.Clone(x.edges), sides: slices.Clone(x.sides)}
	other := make()
	want := probe.CopyLists(other)
	for v := range want {
		answer := make()
		probe.Spoil(answer[v], -7)
		answer[v] = want[v]
		if !probe.SameLists(answer, want) {
			t.Fatalf("R5: P13.3: %s: the list %d written over, and the answer is %v, want %v", what, v, answer, want)
		}
	}
	probe.Spoil(make(), []int{-7})
	if again := make(); !probe.SameLists(other, want) || !probe.SameLists(again, want) {
		t.Fatalf("R5: P13.3: %s: one answer written over, and others are %v, %v, want %v", what, other, again, want)
	}
	if !x.same(before) {
		t.Fatalf("R5: P13.3: %s: the answer written over, and what was handed in is %+v, before %+v", what, x, before)
	}
}

func TestAnswersOwnMemory(t *testing.T) {
	for _, x := range thrown(t) {
		ownMemory(t, "Embed", x, func() api.Rotation {
			r, _, _ := embed.Embed(x.g)
			return r
		})
		ownMemory(t, "From", x, func() api.Rotation {
			r, _ := embed.From(x.g, x.p)
			return r
		})
	}
}

// TestNothingIsKept: what the caller writes later in what it has handed in is not to be seen in the answers, and is seen by the next call.
func TestNothingIsKept(t *testing.T) {
	g := probe.Without(probe.Complete(5), 0)
	p := partition(t, g)
	first, second := embedded(t, "K5 without an edge", g), from(t, g, p)
	one, other := probe.CopyLists(first), probe.CopyLists(second)
	g.N = 6
	copy(g.Edges, probe.TwoPart(3, 3).Edges) // nine edges, too
	for e := range p {
		p[e] = 5
	}
	if !probe.SameLists(first, one) || !probe.SameLists(second, other) {
		t.Errorf("R5: P13.3: the graph and the partition written over, and the rotations are %v, %v, before %v, %v", first, second, one, other)
	}
	notPlanar(t, "R8: written over by K3,3", g)
	refused(t, g, p, api.ErrPartition)
	g.Edges[0] = api.Edge{U: 3, V: 0}
	notAGraph(t, g)

	g = probe.Complete(4)
	p = api.Partition{0, 1, 1, 0, 1, 0}
	from(t, g, p)
	p[2] = -1
	refused(t, g, p, api.ErrPartition)
	p[1] = -1
	from(t, g, p)
}

// TestEarlierCalls: R8, P13.3: the same graph and partition, the same rotation: whatever has been called before, and wherever they lie.
func TestEarlierCalls(t *testing.T) {
	all := thrown(t)
	before := make([]answers, len(all))
	for i, x := range all {
		before[i] = x.answers()
	}
	for i, x := range slices.Backward(all) {
		notAGraph(t, probe.With(2, api.Edge{U: 1, V: 0}))
		refused(t, probe.Path(2), api.Partition{1}, api.ErrPartition)
		elsewhere := asked{g: api.Graph{N: x.g.N, Edges: slices.Clone(x.g.Edges)}, p: slices.Clone(x.p)}
		for _, y := range []asked{x, elsewhere, x} {
			if a := y.answers(); !a.same(before[i]) {
				t.Fatalf("R8: P13.3: %v, %v: %+v, before %+v", x.g, x.p, a, before[i])
			}
		}
	}
}

// TestSideBySide: R8: calls at the same time, of the same graph, keep out of each other's way.
func TestSideBySide(t *testing.T) {
	all := thrown(t)
	before := make([]answers, len(all))
	for i, x := range all {
		before[i] = x.answers()
	}
	wrong := make([]bool, 8)
	var workers sync.WaitGroup
	for worker := range wrong {
		workers.Go(func() {
			for i, x := range all {
				if !x.answers().same(before[i]) {
					wrong[worker] = true
				}
			}
		})
	}
	workers.Wait()
	if slices.Contains(wrong, true) {
		t.Error("R8: calls side by side answer something else")
	}
}
