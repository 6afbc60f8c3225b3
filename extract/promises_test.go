package extract_test

import (
	"slices"
	"testing"

	"tangram/api"
	"tangram/kura"
	"tangram/probe"
)

// minimal: the numbers of a graph that isn't planar.
func minimal(t *testing.T, g api.Graph) []int {
	t.Helper()
	got := ask(g)
	if got.code != api.OK || len(got.list) == 0 {
		t.Fatalf("P16.1: Minimal(%v): %v, want numbers", probe.Shown(g), got.shown())
	}
	return got.list
}

// rightly: P16.1 of a graph of any size. An edge that stays couldn't go in its turn; of those in a row that go the last one could, with the others gone, and so each could.
func rightly(t *testing.T, g api.Graph) []int {
	t.Helper()
	list := minimal(t, g)
	last := -1
	for i, e := range append(slices.Clone(list), len(g.Edges)) {
		if e <= last || e > len(g.Edges) || i < len(list) && e == len(g.Edges) {
			t.Fatalf("P16.1: Minimal(%v): no rising numbers of edges: %v", probe.Shown(g), list)
		}
		ahead := list[:i]
		if e > last+1 && planar(part(g, slices.Concat(ahead, fromTo(e, len(g.Edges))))) {
			t.Fatalf("P16.1: Minimal(%v): the edges %d to %d can't all go", probe.Shown(g), last+1, e-1)
		}
		if i < len(list) && !planar(part(g, slices.Concat(ahead, fromTo(e+1, len(g.Edges))))) {
			t.Fatalf("P16.1: Minimal(%v): the edge %d could go", probe.Shown(g), e)
		}
		last = e
	}
	return list
}

// smallest: P16.2 and P16.3.
func smallest(t *testing.T, g api.Graph) {
	t.Helper()
	list := minimal(t, g)
	left := part(g, list)
	if planar(left) {
		t.Fatalf("P16.2: Minimal(%v): %v is planar", probe.Shown(g), list)
	}
	for e := range left.Edges {
		if !planar(probe.Without(left, e)) {
			t.Fatalf("P16.2: Minimal(%v): %v isn't planar without the edge %d", probe.Shown(g), list, list[e])
		}
	}
	if k, is, code := kura.Recognise(left); !is || code != api.OK {
		t.Fatalf("P16.2: Minimal(%v): %v is no subdivision: %v, %v, %d", probe.Shown(g), list, k, is, code)
	}
	leaves(t, left, probe.Rising(len(list))...)
}

// somewhat: thrown graphs of about n vertices that aren't planar.
func somewhat(d *probe.Dice, n int) []api.Graph {
	return slices.DeleteFunc(thrown(d, n), planar)
}

func TestSmallestParts(t *testing.T) {
	d := probe.Dice(1605)
	for _, x := range probe.KnownGraphs() {
		if !x.Planar {
			smallest(t, x.Graph)
			smallest(t, d.Renamed(x.Graph))
		}
	}
	for range 50 {
		for _, g := range somewhat(&d, 4+d.Below(60)) {
			smallest(t, g)
		}
	}
}

// TestGreaterGraphs: of those that the slow answers would take long for.
func TestGreaterGraphs(t *testing.T) {
	d := probe.Dice(1606)
	for range 4 {
		for _, g := range somewhat(&d, 200+d.Below(300)) {
			rightly(t, g)
			smallest(t, g)
		}
	}
}

// TestBothKinds: K5 and K3,3 are found, each where there is no other.
func TestBothKinds(t *testing.T) {
	d := probe.Dice(1607)
	for _, base := range []api.Graph{k5(), k33()} {
		for count := range 4 {
			// as a part of a block that is planar but for it
			g := probe.Hung(probe.DividedAll(base, count), 0, d.Triangles(20, 20), 3)
			g = probe.Hung(g, 1, probe.Wheel(6), 2)
			g = d.Renamed(probe.Beside(g, probe.Grid(3, 3), probe.Path(4)))
			list := rightly(t, g)
			if want := len(base.Edges) * (count + 1); len(list) != want {
				t.Fatalf("P16.1: Minimal(%v): %v, want all %d edges of the one part that isn't planar", probe.Shown(g), list, want)
			}
			smallest(t, g)
		}
	}
}

// TestMoreVertices: P16.3: with more vertices without edges, behind, ahead and between, the numbers are the same.
func TestMoreVertices(t *testing.T) {
	d := probe.Dice(1608)
	for range 20 {
		for _, g := range thrown(&d, 4+d.Below(30)) {
			want := ask(g)
			says(t, probe.Beside(g, probe.With(1+d.Below(5))), want)
			says(t, probe.Beside(probe.With(1+d.Below(5)), g), want)
			says(t, spread(&d, g), want)
		}
	}
}

// spread: vertices keep their order, with others between.
func spread(d *probe.Dice, g api.Graph) api.Graph {
	names := make([]int, g.N)
	n := 0
	for v := range names {
		n += d.Below(4)
		names[v] = n
		n++
	}
	wide := api.Graph{N: n + d.Below(4)}
	for _, e := range g.Edges {
		wide.Edges = append(wide.Edges, api.Edge{U: names[e.U], V: names[e.V]})
	}
	return wide
}

// TestSideBySideParts: of two graphs side by side the second one's part is left, if there is one; of the first one none is then.
func TestSideBySideParts(t *testing.T) {
	d := probe.Dice(1609)
	for range 10 {
		graphs := thrown(&d, 4+d.Below(20))
		for _, a := range graphs {
			for _, b := range graphs {
				first, second := ask(a), ask(b)
				for i := range second.list {
					second.list[i] += len(a.Edges)
				}
				if second.code == api.ErrPlanar {
					second = first
				}
				says(t, probe.Beside(a, b), second)
			}
		}
	}
}

// TestEdgesAheadOfAll: of a graph that isn't planar, edges more that stand ahead of all go first; what is answered then is as it was.
func TestEdgesAheadOfAll(t *testing.T) {
	d := probe.Dice(1610)
	for range 20 {
		for _, g := range somewhat(&d, 4+d.Below(20)) {
			count := 1 + d.Below(4)
			ahead := probe.Beside(probe.With(count), g)
			var more [][2]int
			for range 1 + d.Below(30) {
				more = append(more, [2]int{d.Below(count), d.Below(ahead.N)})
			}
			ahead = probe.Plus(ahead, more...)
			want := ask(g)
			for i := range want.list {
				want.list[i] += len(ahead.Edges) - len(g.Edges)
			}
			says(t, ahead, want)
		}
	}
}
