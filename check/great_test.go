package check_test

import (
	"slices"
	"strings"
	"testing"

	"tangram/api"
	"tangram/cert"
	"tangram/check"
	"tangram/probe"
	"tangram/simple"
)

// changed: the certificate with another list round one vertex.
func changed(c api.Cert, v int, list ...int) api.Cert {
	other := round(slices.Clone(c.Around)...)
	other.Around[v] = list
	return other
}

// TestGreatTrees: as many vertices as there may be; all their rotations are flat.
func TestGreatTrees(t *testing.T) {
	last := api.MaxN - 1
	path := inOrder(probe.Path(api.MaxN))
	says(t, "P18.1", probe.Path(api.MaxN), path, api.OK)
	says(t, "P18.1", probe.Path(api.MaxN), changed(path, last), api.ErrBadRot)
	says(t, "P18.1", probe.Path(api.MaxN), changed(path, last, last-1, last), api.ErrBadRot)
	says(t, "P18.1", probe.Path(api.MaxN), changed(path, last-1, last, last-2), api.ErrBadCert)
	d := probe.Dice(1814)
	for _, middle := range []int{0, api.MaxN / 2, last} {
		g := probe.Star(api.MaxN, middle)
		c := inOrder(g)
		says(t, "P18.1", g, c, api.OK)
		list := c.Around[middle]
		says(t, "P18.1", g, changed(c, middle, append([]int{list[0]}, probe.Mixed(&d, list[1:])...)...), api.OK)
		says(t, "P18.1", g, changed(c, middle, list[:len(list)-1]...), api.ErrBadRot)
		says(t, "P18.1", g, part(min(1, middle), max(1, middle)+api.MaxN), api.ErrNotIn)
	}
}

// TestGreatRounds: as many vertices as there may be, none with an edge; and a list more or less.
func TestGreatRounds(t *testing.T) {
	none := probe.With(api.MaxN)
	lists := make([][]int, api.MaxN)
	says(t, "P18.1", none, round(lists...), api.OK)
	says(t, "P18.1", none, round(lists[1:]...), api.ErrBadRot)
	says(t, "P18.1", none, round(append(lists, nil)...), api.ErrBadCert)
	says(t, "P18.1", probe.With(api.MaxN-1), round(lists...), api.ErrBadRot)
	says(t, "P18.1", none, changed(round(lists...), api.MaxN-1, 0), api.ErrBadRot)
	says(t, "P18.1", none, part(0, api.MaxN-1), api.ErrNotIn)
	says(t, "P18.1", none, part(), api.ErrNotKura)
}

// gridCert: a grid as one draws it: up, right, down, left.
func gridCert(rows, columns int) api.Cert {
	c := round(make([][]int, rows*columns)...)
	for v := range c.Around {
		var list []int
		if v >= columns {
			list = append(list, v-columns)
		}
		if v%columns < columns-1 {
			list = append(list, v+1)
		}
		if v/columns < rows-1 {
			list = append(list, v+columns)
		}
		if v%columns > 0 {
			list = append(list, v-1)
		}
		c.Around[v] = leastFirst(list)
	}
	return c
}

// TestGreatGrids: near the greatest text there may be, and beyond it: then the certificate may not be, though the rotation is flat.
func TestGreatGrids(t *testing.T) {
	g, c := probe.Grid(1000, 1000), gridCert(1000, 1000)
	says(t, "P18.1", g, c, api.OK)
	says(t, "P18.1", g, mirrored(c), api.OK)
	list := c.Around[500500]
	says(t, "P18.1", g, changed(c, 500500, list[0], list[1], list[3], list[2]), api.ErrNotFlat)
	says(t, "P18.1", g, changed(c, 500500, list[0], list[1], list[3]), api.ErrBadRot)
	says(t, "P18.1", g, changed(c, 500500, list[1], list[2], list[3], list[0]), api.ErrBadCert)
	wide, long := probe.Hubs(probe.Path(api.MaxN-2), 2), hubsCert(api.MaxN-2)
	short := hubsCert(700000)
	if mayBe(long) || !mayBe(short) {
		t.Fatal("just the first should be too long")
	}
	says(t, "P18.1", wide, long, api.ErrBadCert)
	says(t, "P18.1", probe.Hubs(probe.Path(700000), 2), short, api.OK)
}

// hubsCert: a path of n vertices that leads from left to right, one hub above it, one below.
func hubsCert(n int) api.Cert {
	c := round(make([][]int, n+2)...)
	for v := range n {
		list := []int{n}
		if v < n-1 {
			list = append(list, v+1)
		}
		list = append(list, n+1)
		if v > 0 {
			list = append(list, v-1)
		}
		c.Around[v] = leastFirst(list)
	}
	c.Around[n+1] = probe.Rising(n)
	back := probe.Rising(n)
	slices.Reverse(back)
	c.Around[n] = leastFirst(back)
	return c
}

// TestGreatSubdivisions: as many vertices as there may be.
func TestGreatSubdivisions(t *testing.T) {
	for _, base := range []api.Graph{k5(), k33()} {
		long := probe.Divided(base, 3, api.MaxN-base.N)
		says(t, "P18.1", long, all(long), api.OK)
		says(t, "P18.1", long, api.Cert{Edges: long.Edges[1:]}, api.ErrNotKura)
		says(t, "P18.1", long, api.Cert{Edges: long.Edges[:len(long.Edges)-1]}, api.ErrNotKura)
		says(t, "P18.1", probe.Without(long, len(long.Edges)-1), all(long), api.ErrNotIn)
		more := probe.Plus(long, [2]int{api.MaxN - 5, api.MaxN - 1})
		says(t, "P18.1", more, all(long), api.OK)
		says(t, "P18.1", more, all(more), api.ErrNotKura)
	}
	names := []int{0, 1, api.MaxN / 2, api.MaxN - 3, api.MaxN - 2, api.MaxN - 1}
	for _, base := range []api.Graph{k5(), k33()} {
		var pairs [][2]int
		for _, e := range base.Edges {
			pairs = append(pairs, [2]int{names[e.U], names[e.V]})
		}
		wide := probe.OfPairs(api.MaxN, pairs)
		says(t, "P18.1", wide, all(wide), api.OK)
		says(t, "P18.1", wide, all(probe.Without(wide, 4)), api.ErrNotKura)
		says(t, "P18.1", probe.Plus(probe.Path(api.MaxN), pairs...), all(wide), api.OK)
	}
}

// TestMaxEdges: a graph of as many edges as there may be, and certificates of few of them, of many, and of too many.
func TestMaxEdges(t *testing.T) {
	g := probe.Dense(api.MaxEdges)
	says(t, "P18.1", g, all(k5()), api.OK)
	says(t, "P18.1", g, all(probe.DividedAll(k33(), 200)), api.OK)
	says(t, "P18.1", g, all(g), api.ErrBadCert)
	says(t, "P18.1", g, api.Cert{Edges: g.Edges[:3000000]}, api.ErrNotKura)
	says(t, "P18.1", probe.With(g.N, g.Edges[1:]...), api.Cert{Edges: g.Edges[:3000000]}, api.ErrNotIn)
	says(t, "P18.1", g, inOrder(g), api.ErrBadCert)
	says(t, "P18.1", probe.Dense(api.MaxEdges+1), all(k5()), api.ErrGraph)
	says(t, "P18.1", k5(), api.Cert{Edges: probe.Dense(api.MaxEdges + 1).Edges}, api.ErrBadCert)
}

// TestMaxText: P18.1: a certificate of just as many bytes as there may be, and of one more, though nobody has written it.
func TestMaxText(t *testing.T) {
	zeros := make([]int, (api.MaxText-4)/2)
	says(t, "P18.1", probe.With(1), round(zeros), api.ErrBadRot)
	zeros[1] = 10
	says(t, "P18.1", probe.With(1), round(zeros), api.ErrBadCert)
	edges := part(0, 1, 1000000, 999999999).Edges
	for i := range 1677720 {
		edges = append(edges, api.Edge{U: 100000000 + i, V: 999999999})
	}
	says(t, "P18.1", probe.With(1), api.Cert{Edges: edges}, api.ErrNotIn)
	edges[0].V = 10
	says(t, "P18.1", probe.With(1), api.Cert{Edges: edges}, api.ErrBadCert)
}

// readsGreat asks one of the two calls alone.
func readsGreat(t *testing.T, b, c string, want api.Errno) {
	t.Helper()
	if want == api.OK && !check.Accepts([]byte(b), []byte(c)) {
		t.Fatalf("P18.3: Accepts(%q, %q): false", brief(b), brief(c))
	}
	if want != api.OK && check.Bytes([]byte(b), []byte(c)) != want {
		t.Fatalf("P18.2: Bytes(%q, %q): not %d", brief(b), brief(c), want)
	}
}

// TestGreatBytes: P18.2, P18.3 at the limits of both texts.
func TestGreatBytes(t *testing.T) {
	full := "2 1\n0 1\n" + strings.Repeat("\n", api.MaxBytes-8)
	readsGreat(t, full, "p 2\n1\n0\n", api.OK)
	readsGreat(t, full+"\n", "p 2\n1\n0\n", api.ErrBadGraph)
	readsGreat(t, full+"\n", strings.Repeat("x", api.MaxText+1), api.ErrBadGraph)
	zeros := "p 1\n" + strings.Repeat("0 ", (api.MaxText-6)/2) + "0\n"
	if len(zeros) != api.MaxText {
		t.Fatalf("the text has %d bytes", len(zeros))
	}
	readsGreat(t, full, zeros, api.ErrBadRot)
	readsGreat(t, full, zeros+"\n", api.ErrBadCert)
	readsGreat(t, "1 0\n", zeros, api.ErrBadRot)
	long := probe.Divided(k5(), 3, api.MaxN-5)
	for _, x := range []pair{
		{probe.Path(api.MaxN), inOrder(probe.Path(api.MaxN)), api.OK},
		{long, all(long), api.OK},
		{long, inOrder(long), api.ErrNotFlat},
		{probe.With(api.MaxN), round(make([][]int, api.MaxN)...), api.OK},
	} {
		text, code := simple.Text(x.g)
		if code != api.OK {
			t.Fatalf("simple.Text: %d", code)
		}
		said, code := cert.Print(x.c)
		if code != api.OK {
			t.Fatalf("cert.Print: %d", code)
		}
		readsGreat(t, text, said, x.want)
		if x.c.Planar == (x.want == api.OK) {
			readsGreat(t, text, said[:len(said)-1], api.ErrBadCert)
			readsGreat(t, text[:len(text)-1]+"x", said, api.ErrBadGraph)
		}
	}
}
