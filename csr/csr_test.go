package csr_test

import (
	"iter"
	"math"
	"slices"
	"testing"

	"tangram/api"
	"tangram/csr"
	"tangram/probe"
)

func made(t *testing.T, g api.Graph) *csr.Adj {
	t.Helper()
	a, code := csr.New(g)
	if a == nil || code != api.OK {
		t.Fatalf("P4.1: New(%v): %v, %d", probe.Shown(g), a, code)
	}
	return a
}

func noVertices(n int) []int {
	return []int{-1, -2, n, n + 1, -n - 1, api.MaxN, math.MinInt64, math.MinInt64 + 1, math.MaxInt64, math.MaxInt64 - 1}
}

func noHalves(m int) []int {
	return []int{-1, -2, 2 * m, 2*m + 1, -2*m - 1, 2 * api.MaxEdges, math.MinInt64, math.MinInt64 + 1, math.MaxInt64, math.MaxInt64 - 1}
}

// atVertices: what is asked of one vertex is what the orders say.
func atVertices(t *testing.T, a *csr.Adj, g api.Graph, out [][]int) {
	t.Helper()
	for v, want := range out {
		if got := slices.Collect(a.Out(v)); !slices.Equal(got, want) {
			t.Fatalf("P4.1: Out(%d) of %v: %v, want %v", v, probe.Shown(g), got, want)
		}
		if got := a.Degree(v); got != len(want) {
			t.Fatalf("P4.1: Degree(%d) of %v: %d, want %d", v, probe.Shown(g), got, len(want))
		}
		first := -1
		if len(want) > 0 {
			first = want[0]
		}
		if got := a.First(v); got != first {
			t.Fatalf("P4.1: First(%d) of %v: %d, want %d", v, probe.Shown(g), got, first)
		}
	}
}

// atHalves: what is asked of one half-edge is what the list of edges says.
func atHalves(t *testing.T, a *csr.Adj, g api.Graph, out [][]int) {
	t.Helper()
	for h := range 2 * len(g.Edges) {
		from, to := probe.Ends(g, h)
		if a.From(h) != from || a.To(h) != to {
			t.Fatalf("P4.1: From(%d), To(%d) of %v: %d, %d, want %d, %d", h, h, probe.Shown(g), a.From(h), a.To(h), from, to)
		}
		if got, ok := a.Half(from, to); got != h || !ok {
			t.Fatalf("P4.1: Half(%d, %d) of %v: %d, %v, want %d", from, to, probe.Shown(g), got, ok, h)
		}
	}
	for _, list := range out {
		for i, h := range list {
			after := -1
			if i < len(list)-1 {
				after = list[i+1]
			}
			if got := a.After(h); got != after {
				t.Fatalf("P4.1: After(%d) of %v: %d, want %d", h, probe.Shown(g), got, after)
			}
		}
	}
}

// nowhere: numbers of no vertex and of no half-edge answer that there is nothing.
func nowhere(t *testing.T, a *csr.Adj, g api.Graph) {
	t.Helper()
	for _, v := range noVertices(g.N) {
		if v >= 0 && v < g.N {
			continue
		}
		out := a.Out(v)
		if out == nil {
			t.Fatalf("R7: Out(%d) of %v is nil", v, probe.Shown(g))
		}
		if got := slices.Collect(out); len(got) != 0 || a.Degree(v) != 0 || a.First(v) != -1 {
			t.Fatalf("P4.1: no vertex %d of %v: Out %v, Degree %d, First %d", v, probe.Shown(g), got, a.Degree(v), a.First(v))
		}
		for _, u := range append(noVertices(g.N), 0, 1, g.N-1, g.N/2) {
			apart(t, a, g, u, v)
		}
	}
	for _, h := range noHalves(len(g.Edges)) {
		if h >= 0 && h < 2*len(g.Edges) {
			continue
		}
		if a.From(h) != -1 || a.To(h) != -1 || a.After(h) != -1 {
			t.Fatalf("P4.1: no half-edge %d of %v: From %d, To %d, After %d", h, probe.Shown(g), a.From(h), a.To(h), a.After(h))
		}
	}
}

// apart: no half-edge leads from either to the other.
func apart(t *testing.T, a *csr.Adj, g api.Graph, u, v int) {
	t.Helper()
	for _, p := range [][2]int{{u, v}, {v, u}} {
		if h, ok := a.Half(p[0], p[1]); h != 0 || ok {
			t.Fatalf("P4.1: Half(%d, %d) of %v: %d, %v", p[0], p[1], probe.Shown(g), h, ok)
		}
	}
}

// agrees: an Adj answers in all calls what the graph's list of edges says.
func agrees(t *testing.T, a *csr.Adj, g api.Graph) {
	t.Helper()
	if a.N() != g.N || a.M() != len(g.Edges) {
		t.Fatalf("P4.1: N, M of %v: %d, %d, want %d, %d", probe.Shown(g), a.N(), a.M(), g.N, len(g.Edges))
	}
	out := probe.Leaving(g)
	atVertices(t, a, g, out)
	atHalves(t, a, g, out)
	nowhere(t, a, g)
}

func TestExamples(t *testing.T) {
	g := probe.With(4, api.Edge{U: 0, V: 1}, api.Edge{U: 0, V: 2}, api.Edge{U: 1, V: 2})
	a := made(t, g)
	agrees(t, a, g)
	for v, want := range map[int][]int{0: {0, 2}, 1: {1, 4}, 2: {3, 5}, 3: nil, 4: nil, -1: nil} {
		if got := slices.Collect(a.Out(v)); !slices.Equal(got, want) {
			t.Errorf("P4.1: Out(%d): %v, want %v", v, got, want)
		}
	}
	for _, c := range []struct {
		call      string
		got, want int
	}{
		{"N()", a.N(), 4}, {"M()", a.M(), 3}, {"Degree(2)", a.Degree(2), 2}, {"Degree(3)", a.Degree(3), 0},
		{"From(5)", a.From(5), 2}, {"To(5)", a.To(5), 1}, {"From(6)", a.From(6), -1}, {"To(-1)", a.To(-1), -1},
		{"First(2)", a.First(2), 3}, {"First(3)", a.First(3), -1},
		{"After(3)", a.After(3), 5}, {"After(5)", a.After(5), -1}, {"After(9)", a.After(9), -1},
	} {
		if c.got != c.want {
			t.Errorf("P4.1: %s: %d, want %d", c.call, c.got, c.want)
		}
	}
	if h, ok := a.Half(2, 1); h != 5 || !ok {
		t.Errorf("P4.1: Half(2, 1): %d, %v", h, ok)
	}
	apart(t, a, g, 1, 1)
	apart(t, a, g, 0, 3)
}

func TestSmallGraphs(t *testing.T) {
	for _, g := range probe.Small() {
		a := made(t, g)
		agrees(t, a, g)
		joined := map[[2]int]int{}
		for h := range 2 * len(g.Edges) {
			from, to := probe.Ends(g, h)
			joined[[2]int{from, to}] = h
		}
		for u := -1; u <= g.N; u++ {
			for v := -1; v <= g.N; v++ {
				want, there := joined[[2]int{u, v}]
				if h, ok := a.Half(u, v); h != want || ok != there {
					t.Fatalf("P4.1: Half(%d, %d) of %v: %d, %v, want %d, %v", u, v, g, h, ok, want, there)
				}
			}
		}
	}
}

func TestGreatGraphs(t *testing.T) {
	for _, g := range probe.Great() {
		a := made(t, g)
		agrees(t, a, g)
		for _, v := range []int{0, 1, g.N / 2, g.N - 2, g.N - 1} {
			apart(t, a, g, v, v)
		}
		if g.N == api.MaxN {
			apart(t, a, g, 3, api.MaxN-5)
		}
		once(t, a, g)
	}
}

func TestLastHalfEdge(t *testing.T) {
	g := probe.Dense(api.MaxEdges)
	a := made(t, g)
	last := g.Edges[api.MaxEdges-1]
	h := 2*api.MaxEdges - 1
	if a.M() != api.MaxEdges || a.From(h) != last.V || a.To(h) != last.U {
		t.Errorf("P4.1: the last half-edge of MaxEdges edges: from %d to %d, want from %d to %d", a.From(h), a.To(h), last.V, last.U)
	}
	if a.From(h+1) != -1 || a.To(h+1) != -1 || a.After(h+1) != -1 {
		t.Error("P4.1: a half-edge behind the last one")
	}
}

// once: each half-edge is given by one Out, that of the vertex at which it begins; First and After go by the same.
func once(t *testing.T, a *csr.Adj, g api.Graph) {
	t.Helper()
	seen := make([]int, 2*a.M())
	sum := 0
	for v := range a.N() {
		count, last, next := 0, -1, a.First(v)
		for h := range a.Out(v) {
			if a.From(h) != v || a.To(h) <= last || h != next {
				t.Fatalf("P4.2: Out(%d) of %v gives %d, from %d to %d, behind one to %d; After gives %d", v, probe.Shown(g), h, a.From(h), a.To(h), last, next)
			}
			seen[h]++
			count, last, next = count+1, a.To(h), a.After(h)
		}
		if next != -1 || count != a.Degree(v) {
			t.Fatalf("P4.2: Out(%d) of %v gives %d half-edges, the degree is %d; After goes on with %d", v, probe.Shown(g), count, a.Degree(v), next)
		}
		sum += a.Degree(v)
	}
	for h, times := range seen {
		if times != 1 {
			t.Fatalf("P4.2: %d of %v is given %d times", h, probe.Shown(g), times)
		}
	}
	if sum != 2*a.M() || a.M() != len(g.Edges) {
		t.Fatalf("P4.3: the sum of the degrees of %v is %d, M is %d", probe.Shown(g), sum, a.M())
	}
}

func TestEachHalfEdgeOnce(t *testing.T) {
	for _, g := range probe.Small() {
		once(t, made(t, g), g)
	}
}

func TestTwins(t *testing.T) {
	for _, g := range probe.Small() {
		a := made(t, g)
		for h := range 2 * len(g.Edges) {
			if a.From(h) != a.To(h^1) || a.To(h) != a.From(h^1) || a.From(h) == a.To(h) {
				t.Fatalf("P4.3: %d of %v: from %d to %d, its twin from %d to %d", h, g, a.From(h), a.To(h), a.From(h^1), a.To(h^1))
			}
			if back, ok := a.Half(a.From(h), a.To(h)); back != h || !ok {
				t.Fatalf("P4.3: Half(From, To) of %d of %v: %d, %v", h, g, back, ok)
			}
		}
	}
}

func TestGraphsThatAreNotValid(t *testing.T) {
	for _, g := range probe.Invalid() {
		if a, code := csr.New(g); a != nil || code != api.ErrGraph {
			t.Errorf("P4.1: New(%v): %v, %d", probe.Shown(g), a, code)
		}
	}
	if a, code := csr.New(probe.With(2, api.Edge{U: 1, V: 0})); a != nil || code != api.ErrGraph {
		t.Errorf("P4.1: New of the example: %v, %d", a, code)
	}
}

func TestNil(t *testing.T) {
	var none *csr.Adj
	for _, a := range []*csr.Adj{none, made(t, probe.With(0))} {
		if a.N() != 0 || a.M() != 0 {
			t.Errorf("R6: N, M: %d, %d", a.N(), a.M())
		}
		for _, x := range []int{0, 1, -1, 2, 9, math.MinInt64, math.MaxInt64} {
			out := a.Out(x)
			if out == nil {
				t.Fatalf("R7: Out(%d) is nil", x)
			}
			if got := slices.Collect(out); len(got) != 0 || a.Degree(x) != 0 || a.First(x) != -1 {
				t.Errorf("R6: %d: Out %v, Degree %d, First %d", x, got, a.Degree(x), a.First(x))
			}
			if a.From(x) != -1 || a.To(x) != -1 || a.After(x) != -1 {
				t.Errorf("R6: %d: From %d, To %d, After %d", x, a.From(x), a.To(x), a.After(x))
			}
			for _, y := range []int{0, 1, -1, x, math.MinInt64, math.MaxInt64} {
				apart(t, a, probe.With(0), x, y)
			}
		}
	}
}

// leave goes over an iterator till it has given so many, and tells what came, and how much came when no more was wanted.
func leave(out iter.Seq[int], wanted int) (got []int, more int) {
	out(func(h int) bool {
		if len(got) == wanted {
			more++
			return false
		}
		got = append(got, h)
		return len(got) < wanted
	})
	return got, more
}

func TestOutIsLeft(t *testing.T) {
	for _, g := range probe.Small() {
		a := made(t, g)
		for v, want := range probe.Leaving(g) {
			out := a.Out(v)
			for to := 1; to <= len(want); to++ {
				if got, more := leave(out, to); !slices.Equal(got, want[:to]) || more != 0 {
					t.Fatalf("R7: Out(%d) of %v left behind %d: %v, then %d more", v, g, to, got, more)
				}
				if got := slices.Collect(out); !slices.Equal(got, want) {
					t.Fatalf("R7: Out(%d) of %v gone over again: %v, want %v", v, g, got, want)
				}
			}
		}
	}
}

func TestOutIsGoneOverOften(t *testing.T) {
	for _, g := range probe.Small() {
		a := made(t, g)
		for v, want := range probe.Leaving(g) {
			out := a.Out(v)
			for range 3 {
				if got := slices.Collect(out); !slices.Equal(got, want) {
					t.Fatalf("R7: Out(%d) of %v: %v, want %v", v, g, got, want)
				}
			}
			i := 0
			for h := range out {
				if h != want[i] {
					t.Fatalf("R7: Out(%d) of %v round itself gives %d, want %d", v, g, h, want[i])
				}
				if got := slices.Collect(out); !slices.Equal(got, want) {
					t.Fatalf("R7: Out(%d) of %v within itself: %v, want %v", v, g, got, want)
				}
				i++
			}
			if i != len(want) {
				t.Fatalf("R7: Out(%d) of %v round itself gives %d, want %d", v, g, i, len(want))
			}
		}
	}
}

func TestOutsSideBySide(t *testing.T) {
	a := made(t, probe.Complete(6))
	out := a.Out(2)
	next, stop := iter.Pull(out)
	other, end := iter.Pull(out)
	defer stop()
	defer end()
	for _, want := range slices.Collect(a.Out(2)) {
		for _, pull := range []func() (int, bool){next, other} {
			if h, ok := pull(); h != want || !ok {
				t.Fatalf("R7: one of two that go side by side gives %d, %v, want %d", h, ok, want)
			}
		}
	}
	if _, ok := next(); ok {
		t.Error("R7: one of two that go side by side gives too many")
	}
}

func TestGraphIsNotKept(t *testing.T) {
	for _, g := range probe.Small() {
		own := probe.With(g.N, slices.Clone(g.Edges)...)
		a := made(t, own)
		var early []iter.Seq[int]
		for v := range g.N {
			early = append(early, a.Out(v))
		}
		for i := range own.Edges {
			own.Edges[i] = api.Edge{U: -9, V: math.MaxInt64}
		}
		agrees(t, a, g)
		for v, want := range probe.Leaving(g) {
			if got := slices.Collect(early[v]); !slices.Equal(got, want) {
				t.Fatalf("P4.4: Out(%d) of %v, asked for ahead: %v, want %v", v, g, got, want)
			}
		}
	}
}

func TestGraphIsNotChanged(t *testing.T) {
	edges := []api.Edge{{U: 0, V: 1}, {U: 1, V: 3}, {U: 2, V: 3}, {U: 9, V: 1}, {U: 0, V: 0}}
	before := slices.Clone(edges)
	for to := range len(edges) + 1 {
		g := probe.With(4, edges[:to]...)
		a, _ := csr.New(g)
		for x := -1; x < 9; x++ {
			a.Degree(x)
			leave(a.Out(x), 2)
			a.Half(x, 3)
			a.From(x)
			a.To(x)
			a.First(x)
			a.After(x)
		}
		if !slices.Equal(edges, before) {
			t.Fatalf("R5: P4.4: the edges have been changed: %v", edges)
		}
	}
}

func TestAdjsHangOnTheirGraphsAlone(t *testing.T) {
	all := probe.Small()
	var adjs []*csr.Adj
	for _, g := range all {
		adjs = append(adjs, made(t, g))
	}
	for _, g := range probe.Invalid()[:5] {
		csr.New(g)
	}
	for range 2 {
		for i, g := range all {
			agrees(t, adjs[i], g)
		}
	}
}
