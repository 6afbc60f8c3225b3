package check_test

import (
	"math"
	"slices"
	"strings"
	"testing"

	"tangram/api"
	"tangram/check"
	"tangram/probe"
)

func round(lists ...[]int) api.Cert { return api.Cert{Planar: true, Around: lists} }

// part: a certificate of edges, by their ends, two by two.
func part(ends ...int) api.Cert { return api.Cert{Edges: probe.OfEnds(0, ends...).Edges} }

// all: a certificate of all edges of the graph.
func all(g api.Graph) api.Cert { return api.Cert{Edges: g.Edges} }

func k4() api.Graph { return probe.Complete(4) }

func k5() api.Graph { return probe.Complete(5) }

func k33() api.Graph { return probe.TwoPart(3, 3) }

// shown: a certificate short enough for a message.
func shown(c api.Cert) api.Cert {
	c.Around, c.Edges = slices.Clone(c.Around[:min(len(c.Around), 20)]), c.Edges[:min(len(c.Edges), 20)]
	for v, list := range c.Around {
		c.Around[v] = list[:min(len(list), 20)]
	}
	return c
}

func brief(text string) string { return text[:min(len(text), 200)] }

// says: Graph answers just this.
func says(t *testing.T, promise string, g api.Graph, c api.Cert, want api.Errno) {
	t.Helper()
	if got := check.Graph(g, c); got != want {
		t.Fatalf("%s: Graph(%v, %v): %d, want %d", promise, probe.Shown(g), shown(c), got, want)
	}
}

// reads: Bytes answers just this, and Accepts whether that is OK.
func reads(t *testing.T, promise, b, c string, want api.Errno) {
	t.Helper()
	if got := check.Bytes([]byte(b), []byte(c)); got != want {
		t.Fatalf("%s: Bytes(%q, %q): %d, want %d", promise, brief(b), brief(c), got, want)
	}
	if got := check.Accepts([]byte(b), []byte(c)); got != (want == api.OK) {
		t.Fatalf("P18.3: Accepts(%q, %q): %v", brief(b), brief(c), got)
	}
}

// lines: a text in which `|` stands for a line's end.
func lines(s string) string { return strings.ReplaceAll(s, "|", "\n") }

func TestExamples(t *testing.T) {
	says(t, "P18.1", k4(), round([]int{1, 2, 3}, []int{0, 3, 2}, []int{0, 1, 3}, []int{0, 2, 1}), api.OK)
	says(t, "P18.1", k4(), round([]int{1, 2, 3}, []int{0, 2, 3}, []int{0, 1, 3}, []int{0, 1, 2}), api.ErrNotFlat)
	says(t, "P18.1", k4(), round([]int{1, 2, 3}, []int{0, 2, 3}, []int{0, 1, 3}), api.ErrBadRot)
	says(t, "P18.1", k4(), round([]int{1, 2, 3}, []int{0, 3}, []int{0, 1, 3}, []int{0, 2, 1}), api.ErrBadRot)
	says(t, "P18.1", k4(), part(0, 1, 0, 4), api.ErrNotIn)
	says(t, "P18.1", k4(), part(0, 1, 0, 2), api.ErrNotKura)
	says(t, "P18.1", k4(), part(), api.ErrNotKura)
	tail := probe.Plus(probe.Beside(k5(), probe.With(1)), [2]int{0, 5})
	says(t, "P18.1", tail, all(k5()), api.OK)
	says(t, "P18.1", tail, all(tail), api.ErrNotKura)
	reads(t, "P18.2", "1 1\n0 1\n", "", api.ErrBadGraph)
	says(t, "P18.1", probe.With(0), round(), api.OK)
}

// TestNotValid: P18.1: ErrGraph ahead of all else, whatever the certificate is.
func TestNotValid(t *testing.T) {
	turned := k5()
	slices.Reverse(turned.Edges)
	graphs := append(probe.Invalid(), turned, probe.With(4, k5().Edges...), probe.With(-1, k5().Edges...), probe.With(api.MaxN+1, k5().Edges...))
	for _, g := range graphs {
		for _, c := range []api.Cert{
			{}, round(), round(nil), round(nil, nil, nil), round([]int{1}, []int{0}, nil), round([]int{2, 1}), round([]int{-1}), {Planar: true, Edges: k5().Edges}, {Around: [][]int{nil}},
			all(g), all(k5()), part(0, 1), part(1, 0), part(0, 9), part(-1, 0), part(0, 1, 0, 1),
		} {
			says(t, "P18.1", g, c, api.ErrGraph)
		}
	}
}

// TestNoneThatMayBe: P18.1: ErrBadCert, of a graph of which the certificate would show something but for what makes it one that may not be; and of others.
func TestNoneThatMayBe(t *testing.T) {
	square := [][]int{{1, 3}, {0, 2}, {1, 3}, {0, 2}}
	late := all(k5())
	late.Edges = append(slices.Clone(late.Edges[1:]), late.Edges[0])
	twice := all(k5())
	twice.Edges = slices.Insert(slices.Clone(twice.Edges), 4, twice.Edges[4])
	backward := all(k5())
	backward.Edges = slices.Clone(backward.Edges)
	backward.Edges[9] = api.Edge{U: 4, V: 3}
	for _, c := range []api.Cert{
		{Planar: true, Around: square, Edges: part(0, 1).Edges}, {Planar: true, Edges: k5().Edges}, {Planar: true, Around: make([][]int, 5), Edges: k5().Edges},
		{Around: square}, {Around: square, Edges: k5().Edges}, {Around: [][]int{nil}}, {Around: make([][]int, 5), Edges: k5().Edges},
		round([]int{3, 1}, []int{0, 2}, []int{1, 3}, []int{0, 2}), round([]int{1, 3}, []int{0, 2}, []int{1, 3}, []int{2, 0}), round([]int{1, 3}, []int{0, 2}, []int{3, 1}, []int{0, 2}),
		round([]int{-1}), round([]int{1, 3}, []int{0, 2}, []int{1, 3}, []int{-1, 0, 2}), round([]int{0, 1000000000}), round([]int{0, math.MaxInt64}), round([]int{math.MinInt64}), round(nil, nil, []int{5, 4}),
		late, twice, backward, part(1, 0), part(0, 0), part(1, 1), part(0, 2, 0, 1), part(0, 1, 0, 1), part(1, 2, 0, 3), part(-1, 0), part(-2, -1), part(0, 1, -1, 2), part(0, 1000000000), part(math.MinInt64, math.MaxInt64),
	} {
		for _, g := range []api.Graph{probe.Cycle(4), k5(), k4(), probe.With(0), probe.With(1), probe.With(5), probe.OfEnds(2, 0, 1)} {
			says(t, "P18.1", g, c, api.ErrBadCert)
		}
	}
}

// TestNoRotation: P18.1: ErrBadRot in each way in which lists may be none of the graph's.
func TestNoRotation(t *testing.T) {
	star := probe.OfEnds(5, 0, 1, 0, 2, 0, 3)
	flat := [][]int{{1, 2, 3}, {0}, {0}, {0}, nil}
	says(t, "P18.1", star, round(flat...), api.OK)
	says(t, "P18.1", star, round(flat[:4]...), api.ErrBadRot)
	says(t, "P18.1", star, round(append(slices.Clone(flat), nil)...), api.ErrBadRot)
	says(t, "P18.1", star, round(), api.ErrBadRot)
	for v, lists := range [][][]int{
		{nil, {1}, {1, 2}, {1, 3}, {2, 3}, {2, 3, 3}, {1, 2, 3, 3}, {1, 1, 2, 3}, {1, 1, 2}, {1, 2, 4}, {1, 2, 3, 4}, {0, 1, 2, 3}, {1, 2, 3, 5}, {1, 2, 3, 999999999}},
		{nil, {0, 0}, {1}, {2}, {0, 2}, {4}, {5}},
		{nil, {0, 0}, {1}, {0, 1}, {0, 2}, {3}},
		{nil, {0, 3}, {2}, {999999999}},
		{{0}, {4}, {3}, {0, 1, 2, 3}, {5}},
	} {
		for _, list := range lists {
			other := slices.Clone(flat)
			other[v] = list
			says(t, "P18.1", star, round(other...), api.ErrBadRot)
		}
	}
	// a list of the next vertex, all lists of another graph, and lists of the same graph under other names
	says(t, "P18.1", star, round(flat[1], flat[0], flat[2], flat[3], nil), api.ErrBadRot)
	says(t, "P18.1", probe.Cycle(4), round(flat[:4]...), api.ErrBadRot)
	says(t, "P18.1", k4(), round([]int{1, 2, 3, 4}, []int{0, 2, 3, 4}, []int{0, 1, 3, 4}, []int{0, 1, 2, 4}, []int{0, 1, 2, 3}), api.ErrBadRot)
	says(t, "P18.1", probe.OfEnds(4, 0, 1, 2, 3), round([]int{2}, []int{3}, []int{0}, []int{1}), api.ErrBadRot)
	says(t, "P18.1", probe.With(0), round(nil), api.ErrBadRot)
	says(t, "P18.1", probe.With(1), round(), api.ErrBadRot)
}

// TestNotFlat: P18.1: ErrNotFlat, wherever the part is that isn't flat.
func TestNotFlat(t *testing.T) {
	flat := [][]int{{1, 2, 3}, {0, 3, 2}, {0, 1, 3}, {0, 2, 1}}
	for v, list := range flat {
		other := slices.Clone(flat)
		other[v] = []int{list[0], list[2], list[1]}
		says(t, "P18.1", k4(), round(other...), api.ErrNotFlat)
		says(t, "P18.1", probe.Beside(k4(), probe.With(2)), round(append(slices.Clone(other), nil, nil)...), api.ErrNotFlat)
		says(t, "P18.1", probe.Beside(k4(), probe.Path(2)), round(append(slices.Clone(other), []int{5}, []int{4})...), api.ErrNotFlat)
		both := slices.Concat(flat, moved(other, 4))
		says(t, "P18.1", probe.Beside(k4(), k4()), round(both...), api.ErrNotFlat)
		says(t, "P18.1", probe.Beside(k4(), k4()), round(slices.Concat(other, moved(other, 4))...), api.ErrNotFlat)
		says(t, "P18.1", probe.Beside(k4(), k4()), round(slices.Concat(flat, moved(flat, 4))...), api.OK)
	}
	for _, g := range []api.Graph{k5(), k33(), probe.Complete(6), probe.Petersen(), probe.Beside(k4(), k5())} {
		says(t, "P18.1", g, inOrder(g), api.ErrNotFlat)
	}
}

// moved: the lists of as many vertices behind so many others.
func moved(lists [][]int, by int) [][]int {
	other := probe.CopyLists(lists)
	for _, list := range other {
		for i := range list {
			list[i] += by
		}
	}
	return other
}

// inOrder: round each vertex its neighbours, rising.
func inOrder(g api.Graph) api.Cert { return ofRotation(g, probe.Leaving(g)) }

// TestNotIn: P18.1: ErrNotIn, wherever the edge stands that isn't there, though the others are or would be a subdivision.
func TestNotIn(t *testing.T) {
	for _, base := range []api.Graph{k5(), k33(), probe.DividedAll(k33(), 1)} {
		for e := range base.Edges {
			says(t, "P18.1", probe.Without(base, e), all(base), api.ErrNotIn)
			says(t, "P18.1", probe.Beside(probe.Without(base, e), base), all(base), api.ErrNotIn)
		}
		says(t, "P18.1", base, all(base), api.OK)
	}
	wide := probe.Beside(k33(), probe.With(3))
	for _, e := range probe.Complete(9).Edges {
		if !slices.Contains(wide.Edges, e) {
			says(t, "P18.1", wide, all(probe.Plus(wide, [2]int{e.U, e.V})), api.ErrNotIn)
			says(t, "P18.1", wide, part(e.U, e.V), api.ErrNotIn)
		}
	}
	for _, ends := range [][2]int{{0, 9}, {8, 9}, {9, 10}, {0, 999999999}, {999999998, 999999999}} {
		says(t, "P18.1", wide, part(ends[0], ends[1]), api.ErrNotIn)
		says(t, "P18.1", wide, all(probe.Plus(wide, ends)), api.ErrNotIn)
	}
	says(t, "P18.1", probe.With(0), part(0, 1), api.ErrNotIn)
	says(t, "P18.1", probe.With(5), all(k5()), api.ErrNotIn)
}

// TestNotKura: P18.1: ErrNotKura of what only looks like a subdivision; the graph itself isn't planar.
func TestNotKura(t *testing.T) {
	prism := probe.OfEnds(6, 0, 1, 0, 2, 0, 3, 1, 2, 1, 4, 2, 5, 3, 4, 3, 5, 4, 5)
	for _, g := range []api.Graph{
		probe.With(7), probe.Path(5), probe.Cycle(5), k4(), prism, probe.Complete(6), probe.Petersen(), probe.TwoPart(3, 4), probe.Wheel(5), probe.Complete(7), probe.TwoPart(4, 4),
		probe.Beside(k5(), k5()), probe.Beside(k33(), k33()), probe.Beside(k5(), probe.Cycle(3)), probe.Beside(k33(), probe.Cycle(4)), probe.Beside(k5(), probe.Path(2)),
		probe.Hung(k5(), 2, probe.Path(2), 0), probe.Hung(k33(), 2, probe.Path(3), 0), probe.Hung(k33(), 2, probe.Cycle(3), 0), probe.Hung(probe.Divided(k5(), 3, 1), 5, probe.Cycle(3), 0), probe.Hung(k5(), 0, k5(), 0),
		probe.Plus(k33(), [2]int{0, 1}), probe.Plus(probe.Divided(k5(), 0, 1), [2]int{0, 1}), probe.Without(k5(), 3), probe.Without(k33(), 8), probe.Without(probe.DividedAll(k5(), 2), 17),
	} {
		says(t, "P18.1", g, all(g), api.ErrNotKura)
		says(t, "P18.1", probe.Beside(g, k5()), all(g), api.ErrNotKura)
		says(t, "P18.1", probe.Complete(30), all(g), api.ErrNotKura)
	}
}

// TestKnownGraphs: of each graph that is told by what everybody knows, the certificate that the layers below find is accepted, and it is of the right kind.
func TestKnownGraphs(t *testing.T) {
	for _, x := range probe.KnownGraphs() {
		c := found(t, x.Graph)
		if c.Planar != x.Planar {
			t.Fatalf("%s: a certificate of the wrong kind: %v", x.Name, c)
		}
		says(t, "P18.1", x.Graph, c, api.OK)
	}
}

// TestBytes: P18.2, P18.3.
func TestBytes(t *testing.T) {
	for _, x := range []struct {
		b, c string
		want api.Errno
	}{
		{"3 2|0 1|2 1|", "p 3|1|0 2|1|", api.OK},
		{"|3 5||1 0| 1 0|2 2|2  1|1 2", "p 3|1|0 2|1|", api.OK},
		{"0 0", "p 0|", api.OK},
		{"2 1|1 1|", "p 2|||", api.OK},
		{"5 10|0 1|0 2|0 3|0 4|1 2|1 3|1 4|2 3|2 4|3 4|", "n 10|0 1|0 2|0 3|0 4|1 2|1 3|1 4|2 3|2 4|3 4|", api.OK},
		{"5 11|0 1|0 2|0 3|0 4|4 3|1 2|1 3|1 4|2 3|2 4|3 4|", "n 10|0 1|0 2|0 3|0 4|1 2|1 3|1 4|2 3|2 4|3 4|", api.OK},
		// the graph's bytes first, whatever the certificate's are
		{"", "", api.ErrBadGraph}, {"", "p 0|", api.ErrBadGraph}, {"", "n 0|", api.ErrBadGraph}, {"|", "x", api.ErrBadGraph}, {"x", "p 0|", api.ErrBadGraph},
		{"3|", "p 3||||", api.ErrBadGraph}, {"1048577 0|", "p 0|", api.ErrBadGraph}, {"0 2097153|", "p 0|", api.ErrBadGraph}, {"3 1|0|", "p 3||||", api.ErrBadGraph}, {"2 1|0 2|", "p 2|1|0|", api.ErrBadGraph},
		{"2 2|0 1|", "p 2|1|0|", api.ErrBadGraph}, {"2 1|0 1|0 1|", "p 2|1|0|", api.ErrBadGraph}, {"2 1|0 01|", "p 2|1|0|", api.ErrBadGraph}, {"2 1|0 1|x", "p 2|1|0|", api.ErrBadGraph},
		// then the certificate's
		{"0 0", "", api.ErrBadCert}, {"0 0", "x", api.ErrBadCert}, {"0 0", "p 0", api.ErrBadCert}, {"0 0", "p 0||", api.ErrBadCert}, {"0 0", "p 00|", api.ErrBadCert}, {"0 0", " p 0|", api.ErrBadCert}, {"0 0", "p  0|", api.ErrBadCert}, {"0 0", "P 0|", api.ErrBadCert},
		{"3 2|0 1|2 1|", "p 3|1|2 0|1|", api.ErrBadCert}, {"3 2|0 1|2 1|", "p 3|1|0 2|1", api.ErrBadCert}, {"3 2|0 1|2 1|", "p 3|1|0  2|1|", api.ErrBadCert}, {"3 2|0 1|2 1|", "p 2|1|0 2|1|", api.ErrBadCert},
		{"3 2|0 1|2 1|", "n 1|1 0|", api.ErrBadCert}, {"3 2|0 1|2 1|", "n 2|1 2|0 1|", api.ErrBadCert}, {"3 2|0 1|2 1|", "n 1|0 1 |", api.ErrBadCert}, {"3 2|0 1|2 1|", "3 2|0 1|2 1|", api.ErrBadCert},
		// then what Graph says
		{"3 2|0 1|2 1|", "p 2|1|0|", api.ErrBadRot}, {"3 2|0 1|2 1|", "p 3|1|0|1|", api.ErrBadRot}, {"3 2|0 1|2 1|", "p 0|", api.ErrBadRot}, {"2 1|1 1|", "p 2|1|0|", api.ErrBadRot},
		{"4 6|0 1|0 2|0 3|1 2|1 3|2 3", "p 4|1 2 3|0 2 3|0 1 3|0 1 2|", api.ErrNotFlat},
		{"3 2|0 1|2 1|", "n 1|0 2|", api.ErrNotIn}, {"3 2|0 1|2 1|", "n 3|0 1|1 2|2 3|", api.ErrNotIn}, {"0 0", "n 1|0 1|", api.ErrNotIn},
		{"3 2|0 1|2 1|", "n 1|0 1|", api.ErrNotKura}, {"3 2|0 1|2 1|", "n 0|", api.ErrNotKura}, {"0 0", "n 0|", api.ErrNotKura},
	} {
		reads(t, "P18.2", lines(x.b), lines(x.c), x.want)
	}
}
