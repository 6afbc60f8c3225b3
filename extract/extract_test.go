package extract_test

import (
	"slices"
	"testing"

	"tangram/api"
	"tangram/extract"
	"tangram/probe"
)

// answer: what Minimal says.
type answer struct {
	list []int
	code api.Errno
}

func ask(g api.Graph) answer {
	list, code := extract.Minimal(g)
	return answer{list, code}
}

func same(a, b answer) bool { return a.code == b.code && slices.Equal(a.list, b.list) }

func (a answer) shown() answer {
	a.list = a.list[:min(20, len(a.list))]
	return a
}

// says: Minimal answers just this.
func says(t *testing.T, g api.Graph, want answer) {
	t.Helper()
	if got := ask(g); !same(got, want) {
		t.Fatalf("P16.1: Minimal(%v): %v, want %v", probe.Shown(g), got.shown(), want.shown())
	}
}

// leaves: Minimal answers these numbers.
func leaves(t *testing.T, g api.Graph, want ...int) {
	t.Helper()
	says(t, g, answer{list: want})
}

func refuses(t *testing.T, g api.Graph, code api.Errno) {
	t.Helper()
	says(t, g, answer{code: code})
}

func k5() api.Graph { return probe.Complete(5) }

func k33() api.Graph { return probe.TwoPart(3, 3) }

// fromTo: the numbers from one up to another.
func fromTo(from, to int) []int { return probe.Rising(to)[from:] }

func TestExamples(t *testing.T) {
	leaves(t, k5(), fromTo(0, 10)...)
	leaves(t, k33(), fromTo(0, 9)...)
	leaves(t, probe.Divided(k5(), 0, 1), fromTo(0, 11)...)
	leaves(t, probe.Complete(6), fromTo(5, 15)...)
	leaves(t, probe.Beside(k5(), k5()), fromTo(10, 20)...)
	refuses(t, probe.Complete(4), api.ErrPlanar)
	refuses(t, probe.OfEnds(1, 0, 0), api.ErrGraph)
}

// TestPlanarGraphs: no vertices and no edges among them.
func TestPlanarGraphs(t *testing.T) {
	for _, x := range probe.KnownGraphs() {
		if x.Planar {
			refuses(t, x.Graph, api.ErrPlanar)
		}
	}
	d := probe.Dice(1601)
	for _, n := range []int{3, 4, 5, 6, 30, 500} {
		refuses(t, d.Triangles(n, 2*n), api.ErrPlanar)
	}
	for _, g := range []api.Graph{k5(), k33(), probe.DividedAll(k5(), 2), probe.DividedAll(k33(), 3)} {
		for e := range g.Edges {
			refuses(t, probe.Without(g, e), api.ErrPlanar)
		}
	}
}

// TestNotValid: R2, R3.
func TestNotValid(t *testing.T) {
	k := k5()
	slices.Reverse(k.Edges)
	for _, g := range append(probe.Invalid(), k, probe.With(4, k5().Edges...), probe.With(-1, k5().Edges...), probe.With(api.MaxN+1, k5().Edges...)) {
		refuses(t, g, api.ErrGraph)
	}
}

// TestFullGraphs: of all edges those between the last five vertices are left; of a two-part graph those between the last three of either side.
func TestFullGraphs(t *testing.T) {
	for n := 5; n < 40; n++ {
		g := probe.Complete(n)
		leaves(t, g, fromTo(len(g.Edges)-10, len(g.Edges))...)
	}
	for a := 3; a < 12; a++ {
		for b := 3; b < 12; b++ {
			var want []int
			for u := a - 3; u < a; u++ {
				want = append(want, fromTo(u*b+b-3, u*b+b)...)
			}
			leaves(t, probe.TwoPart(a, b), want...)
		}
	}
}

// TestOneEdgeMore: what is nearly a smallest part, with one edge that can be spared ahead of all, among the others, or behind them.
func TestOneEdgeMore(t *testing.T) {
	// K3,3 with two of a side joined: that edge goes, wherever it stands
	leaves(t, probe.Plus(k33(), [2]int{0, 1}), fromTo(1, 10)...)
	leaves(t, probe.Plus(k33(), [2]int{1, 2}), 0, 1, 2, 4, 5, 6, 7, 8, 9)
	leaves(t, probe.Plus(k33(), [2]int{4, 5}), fromTo(0, 9)...)
	// K5 with a vertex on an edge, and the edge beside it: the way that has the earlier edge goes
	leaves(t, probe.Plus(probe.Divided(k5(), 0, 1), [2]int{0, 1}), 1, 2, 3, 4, 5, 6, 7, 8, 9, 10, 11)
	leaves(t, probe.Plus(probe.Renamed(probe.Divided(k5(), 0, 1), []int{1, 2, 3, 4, 5, 0}), [2]int{1, 2}), fromTo(2, 12)...)
}

// TestLongRuns: so many edges that go ahead of those that stay, between them, and behind them.
func TestLongRuns(t *testing.T) {
	for _, n := range []int{1, 2, 3, 4, 5, 6, 7, 8, 9, 15, 16, 17, 100} {
		path := probe.Path(n + 1)
		for _, base := range []api.Graph{k5(), k33()} {
			m := len(base.Edges)
			leaves(t, probe.Beside(path, base), fromTo(n, n+m)...)
			leaves(t, probe.Beside(base, path), fromTo(0, m)...)
			leaves(t, probe.Beside(path, base, path, base, path), fromTo(2*n+m, 2*n+2*m)...)
		}
		// a hub of many leaves: its first edges stay, those to the leaves go, the others stay
		hub := probe.Hung(k5(), 2, probe.Star(n+1, 0), 0)
		leaves(t, hub, slices.Concat(fromTo(0, 9), []int{9 + n})...)
	}
}
