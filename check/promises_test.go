package check_test

import (
	"slices"
	"strings"
	"testing"

	"tangram/api"
	"tangram/cert"
	"tangram/check"
	"tangram/embed"
	"tangram/extract"
	"tangram/lr"
	"tangram/nums"
	"tangram/probe"
	"tangram/simple"
)

// leastFirst: the list turned so that no number is below the first.
func leastFirst(list []int) []int {
	if len(list) == 0 {
		return nil
	}
	return probe.Turn(list, slices.Index(list, slices.Min(list)))
}

// ofRotation: the certificate that says this rotation of the graph.
func ofRotation(g api.Graph, r api.Rotation) api.Cert {
	c := round(make([][]int, len(r))...)
	for v, list := range r {
		for _, h := range list {
			_, w := probe.Ends(g, h)
			c.Around[v] = append(c.Around[v], w)
		}
		c.Around[v] = leastFirst(c.Around[v])
	}
	return c
}

// found: a certificate of the graph, as the layers below find it.
func found(t *testing.T, g api.Graph) api.Cert {
	t.Helper()
	r, planar, code := embed.Embed(g)
	if code != api.OK {
		t.Fatalf("embed.Embed(%v): %d", probe.Shown(g), code)
	}
	if planar {
		return ofRotation(g, r)
	}
	var c api.Cert
	list, _ := extract.Minimal(g)
	for _, e := range list {
		c.Edges = append(c.Edges, g.Edges[e])
	}
	return c
}

// textOf: bytes that say the graph: its edges in any order, loops and doubles put between, blanks and lines without numbers too.
func textOf(d *probe.Dice, g api.Graph) string {
	pairs := d.Disorder(g)
	var text strings.Builder
	write := func(a, b int) {
		text.WriteString(strings.Repeat("\n", d.Below(4)/3) + strings.Repeat(" ", d.Below(4)/3) + nums.Line(a, b))
	}
	write(g.N, len(pairs))
	for _, p := range pairs {
		write(p[0], p[1])
	}
	return text.String()
}

// mirrored: the certificate of the same rotation the other way round.
func mirrored(c api.Cert) api.Cert {
	around := probe.CopyLists(c.Around)
	for v, list := range around {
		slices.Reverse(list)
		around[v] = leastFirst(list)
	}
	return round(around...)
}

// TestWhatBytesSay: P18.2, P18.3: whatever bytes say a graph, the answer is Graph's; and of the certificate's bytes just one text counts.
func TestWhatBytesSay(t *testing.T) {
	d := probe.Dice(1803)
	for range 1500 {
		g := thrownGraph(&d)
		for range 4 {
			c := spoiled(&d, found(t, g))
			said, code := cert.Print(c)
			if code != api.OK {
				continue
			}
			want := check.Graph(g, c)
			reads(t, "P18.2", textOf(&d, g), said, want)
			text, _ := simple.Text(g)
			reads(t, "P18.2", text, said, want)
			for _, wrong := range []string{said + "\n", " " + said, said[:len(said)-1], strings.ToUpper(said), strings.Replace(said, " ", "  ", 1), said + said} {
				reads(t, "P18.2", text, wrong, api.ErrBadCert)
				reads(t, "P18.2", "x"+text, wrong, api.ErrBadGraph)
			}
			reads(t, "P18.2", text+"0 0\n", said, api.ErrBadGraph)
		}
	}
}

// TestNobodyIsCheated: P18.4: what is accepted shows what is so: of a planar graph no part is accepted, of any other one no rotation.
func TestNobodyIsCheated(t *testing.T) {
	d := probe.Dice(1804)
	with := make(map[bool]int)
	for range 3000 {
		g := thrownGraph(&d)
		planar, _ := lr.Planar(g)
		with[planar]++
		for _, c := range []api.Cert{
			ofRotation(g, d.Rotation(g)), ofRotation(g, d.Rotation(g)), ofRotation(g, d.Rotation(g)), inOrder(g), some(g, d.Below(1<<30)), some(g, d.Below(1<<30)|d.Below(1<<30)), all(g),
		} {
			if check.Graph(g, c) == api.OK && c.Planar != planar {
				t.Fatalf("P18.4: %v, which is planar or not: %v; accepted is %v", g, planar, c)
			}
		}
		if check.Graph(g, found(t, g)) != api.OK {
			t.Fatalf("P18.4: %v: no certificate is accepted", g)
		}
	}
	if with[true] < 500 || with[false] < 500 {
		t.Errorf("so many are planar, or not: %v", with)
	}
}

// TestAllRotations: P18.4, P18.5: of graphs that aren't planar none of all rotations is accepted; of others just those that are flat, however they have been found.
func TestAllRotations(t *testing.T) {
	for _, x := range []struct {
		g    api.Graph
		want int
	}{
		{k5(), 0}, {k33(), 0}, {probe.Plus(k33(), [2]int{3, 5}), 0}, {probe.Divided(k5(), 3, 1), 0}, {probe.Beside(k33(), probe.Cycle(3)), 0},
		{k4(), 2}, {probe.Beside(k4(), k4()), 4}, {probe.Without(k5(), 0), 2}, {probe.Star(6, 0), 24}, {probe.Path(7), 1}, {probe.Cycle(7), 1}, {probe.With(3), 1}, {probe.With(0), 1}, {probe.Wheel(5), 2},
		{probe.TwoPart(2, 4), 6}, // the four ways between the two stand round one of them in any of 6 orders, round the other one the other way about
		{probe.OfEnds(4, 0, 1, 0, 2, 0, 3, 1, 2), 2},
		{probe.Hung(probe.Cycle(3), 0, probe.Cycle(3), 0), 4},
	} {
		count := 0
		for r := range probe.Rotations(x.g) {
			if rightly(t, "P18.5", x.g, ofRotation(x.g, r)) == api.OK {
				count++
			}
		}
		if count != x.want {
			t.Errorf("P18.5: %v: %d rotations are accepted, want %d", x.g, count, x.want)
		}
	}
}

// TestTurnedLists: P18.5: a list that begins elsewhere makes a certificate that may not be; the mirrored rotation is as flat as it was.
func TestTurnedLists(t *testing.T) {
	d := probe.Dice(1805)
	for range 400 {
		g := d.Part(d.Triangles(4+d.Below(30), d.Below(60)), d.Below(50))
		c := found(t, g)
		says(t, "P18.5", g, mirrored(c), api.OK)
		for v, list := range c.Around {
			for at := 1; at < len(list); at++ {
				other := slices.Clone(c.Around)
				other[v] = probe.Turn(list, at)
				says(t, "P18.5", g, round(other...), api.ErrBadCert)
				other[v] = leastFirst(other[v])
				says(t, "P18.5", g, round(other...), api.OK)
			}
		}
	}
}

// TestOtherFlatRotations: P18.5: parts that hang together by a vertex, or not at all, may be mirrored each by itself; other rotations of the same graph are as good.
func TestOtherFlatRotations(t *testing.T) {
	d := probe.Dice(1806)
	for range 300 {
		a, b := d.Triangles(3+d.Below(9), 10), d.Triangles(3+d.Below(9), 10)
		first, second := found(t, a), found(t, b)
		for _, one := range []api.Cert{first, mirrored(first)} {
			for _, other := range []api.Cert{second, mirrored(second)} {
				both := slices.Concat(one.Around, moved(other.Around, a.N))
				says(t, "P18.5", probe.Beside(a, b), round(both...), api.OK)
			}
		}
		tree := d.Renamed(d.Thin(2+d.Below(20), 0))
		says(t, "P18.5", tree, ofRotation(tree, d.Rotation(tree)), api.OK)
	}
}

// placed: a subdivision under thrown names, among other vertices and edges.
func placed(d *probe.Dice) (api.Graph, api.Cert) {
	base := [2]api.Graph{k5(), k33()}[d.Below(2)]
	for range d.Below(6) {
		base = probe.Divided(base, d.Below(len(base.Edges)), 1+d.Below(3))
	}
	n := base.N + d.Below(12)
	c := all(probe.Renamed(base, probe.Mixed(d, probe.Rising(n))))
	return probe.Plus(probe.With(n, c.Edges...), d.Pairs(n, d.Below(60))...), c
}

// TestOthersDontMatter: P18.5: edges of the graph that are a subdivision with their ends are accepted, whatever the graph has beside them, and though others have been found; with an edge more or less, or another one, they are what these edges alone are.
func TestOthersDontMatter(t *testing.T) {
	d := probe.Dice(1807)
	full := probe.Complete(40)
	for range 1500 {
		g, c := placed(&d)
		says(t, "P18.5", g, c, api.OK)
		says(t, "P18.5", probe.With(g.N, c.Edges...), c, api.OK)
		says(t, "P18.5", probe.Beside(g, k5()), c, api.OK)
		says(t, "P18.5", full, c, api.OK)
		for e := range c.Edges {
			says(t, "P18.5", g, all(probe.Without(api.Graph{Edges: c.Edges}, e)), api.ErrNotKura)
		}
		for _, e := range g.Edges {
			more := all(probe.Plus(api.Graph{Edges: c.Edges}, [2]int{e.U, e.V}))
			if len(more.Edges) > len(c.Edges) {
				says(t, "P18.5", g, more, api.ErrNotKura)
			}
		}
	}
}

// TestNotSmallest: P18.5: edges need not be those that extract.Minimal finds.
func TestNotSmallest(t *testing.T) {
	k6 := probe.Complete(6)
	says(t, "P18.5", k6, all(k5()), api.OK)
	says(t, "P18.5", k6, all(k33()), api.OK)
	says(t, "P18.5", k6, all(probe.Divided(k5(), 9, 1)), api.OK)
	says(t, "P18.5", probe.Beside(k5(), k33()), all(k5()), api.OK)
	says(t, "P18.5", probe.Beside(k5(), k33()), all(probe.Beside(probe.With(5), k33())), api.OK)
}

// TestUnlikeKinds: P18.4: of two certificates of unlike kinds at most one is accepted.
func TestUnlikeKinds(t *testing.T) {
	d := probe.Dice(1808)
	var planar, others []api.Cert
	var graphs []api.Graph
	for range 60 {
		g := thrownGraph(&d)
		c := found(t, g)
		graphs = append(graphs, g)
		if c.Planar {
			planar = append(planar, c)
		} else {
			others = append(others, c)
		}
	}
	for _, g := range graphs {
		accepted := func(c api.Cert) bool { return check.Graph(g, c) == api.OK }
		if slices.ContainsFunc(planar, accepted) == slices.ContainsFunc(others, accepted) {
			t.Fatalf("P18.4: %v: both kinds are accepted, or neither", g)
		}
	}
}
