package edit_test

import (
	"slices"
	"testing"

	"tangram/api"
	"tangram/probe"
)

// many: all small graphs, and thrown ones.
func many(seed probe.Dice) []api.Graph {
	return append(probe.Small(), thrown(&seed, 60)...)
}

// equal: what has been done and undone is the graph again.
func equal(t *testing.T, what string, got, want api.Graph) {
	t.Helper()
	if !same(answer{g: got}, answer{g: want}) {
		t.Fatalf("%s: %v, want %v", what, probe.Shown(got), probe.Shown(want))
	}
}

// number: the place of an edge in the list.
func number(g api.Graph, u, v int) int { return slices.Index(g.Edges, api.Edge{U: u, V: v}) }

// TestWithAndWithout: P14.2.
func TestWithAndWithout(t *testing.T) {
	for _, g := range many(1402) {
		for e, ends := range g.Edges {
			less := without(g, e).gives(t)
			if number(less, ends.U, ends.V) != -1 || len(less.Edges) != len(g.Edges)-1 {
				t.Fatalf("P14.1: Without(%v, %d): %v", g, e, less)
			}
			equal(t, "P14.2: With of what Without took", with(less, ends.U, ends.V).gives(t), g)
		}
		for u := range g.N {
			for v := u + 1; v < g.N; v++ {
				if number(g, u, v) != -1 {
					continue
				}
				more := with(g, u, v).gives(t)
				equal(t, "P14.2: Without of what With put in", without(more, number(more, u, v)).gives(t), g)
			}
		}
	}
}

// TestNumbersWithout: the edges ahead of the one that is taken away keep their numbers, those behind it have one less.
func TestNumbersWithout(t *testing.T) {
	for _, g := range many(1403) {
		for e := range g.Edges {
			less := without(g, e).gives(t)
			if !slices.Equal(less.Edges[:e], g.Edges[:e]) || !slices.Equal(less.Edges[e:], g.Edges[e+1:]) {
				t.Fatalf("P14.1: Without(%v, %d): %v", g, e, less)
			}
		}
	}
}

// TestDivideAndBack: P14.2.
func TestDivideAndBack(t *testing.T) {
	for _, g := range many(1404) {
		for e, ends := range g.Edges {
			divided := divide(g, e).gives(t)
			if divided.N != g.N+1 || len(divided.Edges) != len(g.Edges)+1 || number(divided, ends.U, g.N) == -1 || number(divided, ends.V, g.N) == -1 {
				t.Fatalf("P14.1: Divide(%v, %d): %v", g, e, divided)
			}
			rest := induced(divided, probe.Rising(g.N)...).gives(t)
			equal(t, "P14.2: Divide without the new vertex", rest, without(g, e).gives(t))
			equal(t, "P14.2: Divide without the new vertex, and the edge put back", with(rest, ends.U, ends.V).gives(t), g)
		}
	}
}

// inverse: of a permutation.
func inverse(to []int) []int {
	back := make([]int, len(to))
	for v, name := range to {
		back[name] = v
	}
	return back
}

// backAgain: P14.3 by one permutation.
func backAgain(t *testing.T, g api.Graph, to []int) {
	t.Helper()
	named := relabel(g, to...).gives(t)
	equal(t, "P14.3: Relabel by a permutation and its inverse", relabel(named, inverse(to)...).gives(t), g)
	equal(t, "P14.3: Induced of all vertices in another order", induced(g, to...).gives(t), relabel(g, inverse(to)...).gives(t))
}

func TestRelabelAndBack(t *testing.T) {
	for n := range 6 {
		orders := probe.Arranged(probe.Rising(n))
		for _, g := range probe.Graphs(n) {
			for _, to := range orders {
				backAgain(t, g, to)
			}
		}
	}
	d := probe.Dice(1405)
	for _, g := range many(1406) {
		for range 5 {
			backAgain(t, g, probe.Mixed(&d, probe.Rising(g.N)))
		}
	}
}

// TestBesideApart: P14.4.
func TestBesideApart(t *testing.T) {
	d := probe.Dice(1407)
	all := probe.Mixed(&d, many(1408))
	for i, a := range all {
		b := all[(i+1)%len(all)]
		both := beside(a, b).gives(t)
		vertices := probe.Rising(a.N + b.N)
		equal(t, "P14.4: Beside, induced to the first", induced(both, vertices[:a.N]...).gives(t), a)
		equal(t, "P14.4: Beside, induced to the second", induced(both, vertices[a.N:]...).gives(t), b)
		m := len(a.Edges)
		if both.N != a.N+b.N || len(both.Edges) != m+len(b.Edges) || !slices.Equal(both.Edges[:m], a.Edges) {
			t.Fatalf("P14.1: Beside(%v, %v): %v", a, b, both)
		}
	}
}

// TestBareAgain: P14.4; edges keep their numbers, vertices their order.
func TestBareAgain(t *testing.T) {
	for _, g := range many(1409) {
		got := bare(g).ask()
		part := bare(g).gives(t)
		equal(t, "P14.4: Induced to Bare's list", induced(g, got.list...).gives(t), part)
		bare(part).says(t, answer{g: part, list: probe.Rising(part.N)})
		if len(got.list) == g.N {
			equal(t, "P14.4: Bare of a graph without isolated vertices", part, g)
		}
		if !slices.IsSorted(got.list) || len(part.Edges) != len(g.Edges) {
			t.Fatalf("P14.1: Bare(%v): %v", g, got)
		}
		for i, e := range part.Edges {
			if (api.Edge{U: got.list[e.U], V: got.list[e.V]}) != g.Edges[i] {
				t.Fatalf("P14.1: Bare(%v): the edge %d is %v, by %v", g, i, e, got.list)
			}
		}
	}
}

// TestApexAndBack: P14.5.
func TestApexAndBack(t *testing.T) {
	for _, g := range many(1410) {
		top := apex(g).gives(t)
		if top.N != g.N+1 || len(top.Edges) != len(g.Edges)+g.N {
			t.Fatalf("P14.5: Apex(%v): %v", g, top)
		}
		for v := range g.N {
			if number(top, v, g.N) == -1 {
				t.Fatalf("P14.1: Apex(%v): %v has no edge from %d", g, top, v)
			}
		}
		equal(t, "P14.5: Apex, induced to the old vertices", induced(top, probe.Rising(g.N)...).gives(t), g)
	}
}

// TestWheel: a cycle with an apex, whose spokes divided and taken away again.
func TestWheel(t *testing.T) {
	for n := 3; n < 30; n++ {
		wheel := apex(probe.Cycle(n)).gives(t)
		equal(t, "P14.1: Apex of a cycle", wheel, probe.Wheel(n))
		for e, ends := range wheel.Edges {
			equal(t, "P14.1: a wheel with an edge divided", divide(wheel, e).gives(t), probe.Divided(wheel, e, 1))
			equal(t, "P14.1: a wheel without an edge", without(wheel, e).gives(t), probe.Without(wheel, e))
			if ends.V != n {
				continue
			}
			others := slices.Delete(probe.Rising(n+1), ends.U, ends.U+1)
			equal(t, "P14.1: a wheel without a vertex", induced(wheel, others...).gives(t), apex(induced(probe.Cycle(n), others[:n-1]...).gives(t)).gives(t))
		}
	}
}
