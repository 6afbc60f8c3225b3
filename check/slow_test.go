package check_test

import (
	"slices"
	"strconv"
	"testing"

	"tangram/api"
	"tangram/cert"
	"tangram/check"
	"tangram/probe"
	"tangram/simple"
)

// The chapter's words over again, by other means than the layers': rotations and faces by vertices alone, subdivisions by taking vertices off their edges one by one, till K5 or K3,3 itself is left.

// slowly: the first error that holds.
func slowly(g api.Graph, c api.Cert) api.Errno {
	switch {
	case !isGraph(g):
		return api.ErrGraph
	case !mayBe(c):
		return api.ErrBadCert
	case c.Planar && !isRound(g, c.Around):
		return api.ErrBadRot
	case c.Planar && !isFlat(g, c.Around):
		return api.ErrNotFlat
	case slices.ContainsFunc(c.Edges, func(e api.Edge) bool { return !slices.Contains(g.Edges, e) }):
		return api.ErrNotIn
	case !c.Planar && !isKura(c.Edges):
		return api.ErrNotKura
	}
	return api.OK
}

func before(a, b api.Edge) bool { return a.U < b.U || a.U == b.U && a.V < b.V }

func rising(edges []api.Edge) bool {
	for i, e := range edges {
		if e.U >= e.V || i > 0 && !before(edges[i-1], e) {
			return false
		}
	}
	return true
}

func isGraph(g api.Graph) bool {
	for _, e := range g.Edges {
		if e.U < 0 || e.V >= g.N {
			return false
		}
	}
	return 0 <= g.N && g.N <= 1048576 && len(g.Edges) <= 4194304 && rising(g.Edges)
}

// mayBe: has the certificate a text?
func mayBe(c api.Cert) bool {
	lists, most := c.Around, 1048576
	if !c.Planar {
		lists, most = nil, 4194304
		for _, e := range c.Edges {
			lists = append(lists, []int{e.U, e.V})
		}
	}
	if len(lists) > most || c.Planar && len(c.Edges) > 0 || !c.Planar && (len(c.Around) > 0 || !rising(c.Edges)) {
		return false
	}
	long := len("p \n" + strconv.Itoa(len(lists)))
	for _, list := range lists {
		if len(list) > 0 && (slices.Min(list) < max(0, list[0]) || slices.Max(list) > 999999999) {
			return false
		}
		long += max(1, len(list))
		for _, n := range list {
			long += len(strconv.Itoa(n))
		}
	}
	return long <= 33554432
}

func neighbours(g api.Graph) [][]int {
	lists := make([][]int, g.N)
	for _, e := range g.Edges {
		lists[e.U] = append(lists[e.U], e.V)
		lists[e.V] = append(lists[e.V], e.U)
	}
	return lists
}

// isRound: has each list its vertex's neighbours, each once?
func isRound(g api.Graph, around [][]int) bool {
	return slices.EqualFunc(around, neighbours(g), func(list, others []int) bool {
		slices.Sort(others)
		return slices.Equal(slices.Sorted(slices.Values(list)), others)
	})
}

// isFlat: the faces are counted by going from each pair of joined vertices on, and the components by giving both ends of each edge the lesser of their names, till nothing changes.
func isFlat(g api.Graph, around [][]int) bool {
	next := make(map[[2]int]int) // behind u, round v
	for v, list := range around {
		for i, u := range list {
			next[[2]int{u, v}] = list[(i+1)%len(list)]
		}
	}
	faces := 0
	gone := make(map[[2]int]bool)
	for step := range next {
		if !gone[step] {
			faces++
		}
		for !gone[step] {
			gone[step] = true
			step = [2]int{step[1], next[step]}
		}
	}
	names := probe.Rising(g.N)
	for changed := true; changed; {
		changed = false
		for _, e := range g.Edges {
			least := min(names[e.U], names[e.V])
			changed = changed || names[e.U] != names[e.V]
			names[e.U], names[e.V] = least, least
		}
	}
	slices.Sort(names)
	count, isolated := len(slices.Compact(names)), 0
	for _, list := range around {
		if len(list) == 0 {
			isolated++
		}
	}
	return g.N-len(g.Edges)+faces == 2*count-isolated
}

// isKura: are these edges, with their ends, a subdivision? Where a vertex has two edges they become one, whatever comes of it: a loop, or two between the same vertices, are seen at the end.
func isKura(edges []api.Edge) bool {
	var left [][2]int
	for _, e := range edges {
		left = append(left, [2]int{e.U, e.V})
	}
	for less := true; less; {
		left, less = smoothed(left)
	}
	joined := make(map[[2]int]bool)
	at := make(map[int]int)
	for _, e := range left {
		joined[e], joined[[2]int{e[1], e[0]}] = true, true
		at[e[0]]++
		at[e[1]]++
	}
	if len(joined) != 2*len(left) {
		return false
	}
	return len(at) == 5 && len(left) == 10 || len(at) == 6 && len(left) == 9 && inThrees(at, joined)
}

// smoothed: without one vertex that two edges have in common, and no others have; false, if there is none.
func smoothed(edges [][2]int) ([][2]int, bool) {
	by := make(map[int][]int)
	for i, e := range edges {
		for _, v := range e {
			by[v] = append(by[v], i)
		}
	}
	for v, two := range by {
		if len(two) == 2 && two[0] != two[1] {
			one, other := edges[two[0]], edges[two[1]]
			edges[two[0]] = [2]int{one[0] + one[1] - v, other[0] + other[1] - v}
			return slices.Delete(edges, two[1], two[1]+1), true
		}
	}
	return edges, false
}

// inThrees: has each vertex three neighbours, and are any two of unlike neighbours joined?
func inThrees(at map[int]int, joined map[[2]int]bool) bool {
	for u := range at {
		for v := range at {
			alike := true
			for w := range at {
				alike = alike && joined[[2]int{u, w}] == joined[[2]int{v, w}]
			}
			if at[u] != 3 || alike == joined[[2]int{u, v}] {
				return false
			}
		}
	}
	return true
}

// rightly: Graph answers what the chapter's words say; that answer.
func rightly(t *testing.T, promise string, g api.Graph, c api.Cert) api.Errno {
	t.Helper()
	want := slowly(g, c)
	says(t, promise, g, c, want)
	return want
}

// TestAllSmallLists: P18.1: all lists of few numbers, with all graphs of three vertices and fewer.
func TestAllSmallLists(t *testing.T) {
	lists := probe.Lists([]int{0, 1, 2, 3}, 2)
	with := make(map[api.Errno]int)
	for n := range 4 {
		for _, g := range probe.Graphs(n) {
			for around := range probe.Choices(slices.Repeat([][][]int{lists}, n)) {
				with[rightly(t, "P18.1", g, round(around...))]++
			}
			for _, around := range probe.Lists([][]int{nil, {0}, {1}, {0, 1}, {1, 0}, {0, 2}, {1, 2}}, 4) {
				with[rightly(t, "P18.1", g, round(around...))]++
			}
		}
	}
	if with[api.OK] < 12 || with[api.ErrBadCert] < 10000 || with[api.ErrBadRot] < 10000 {
		t.Errorf("so many answers of each kind: %v", with)
	}
}

// TestAllSmallParts: P18.1: all edges that may be named or not, with all graphs of three vertices and fewer.
func TestAllSmallParts(t *testing.T) {
	var edges []api.Edge
	for u := -1; u < 4; u++ {
		for v := -1; v < 4; v++ {
			edges = append(edges, api.Edge{U: u, V: v})
		}
	}
	named := probe.Lists(edges, 3)
	for n := range 4 {
		for _, g := range probe.Graphs(n) {
			for _, list := range named {
				rightly(t, "P18.1", g, api.Cert{Edges: list})
			}
		}
	}
}

// some: the graph's edges of which the bits tell.
func some(g api.Graph, chosen int) api.Cert {
	var c api.Cert
	for i, e := range g.Edges {
		if chosen>>i&1 == 1 {
			c.Edges = append(c.Edges, e)
		}
	}
	return c
}

// TestAllPartsOfFive: P18.1, P18.4: of all graphs of five vertices and fewer all rotations, and all parts of the full graph: some rotation is accepted, or some part, never both, never neither.
func TestAllPartsOfFive(t *testing.T) {
	for n := range 6 {
		full := probe.Complete(n)
		for _, g := range probe.Graphs(n) {
			accepted := make(map[bool]int)
			for r := range probe.Rotations(g) {
				if rightly(t, "P18.1", g, ofRotation(g, r)) == api.OK {
					accepted[true]++
				}
			}
			for chosen := range 1 << len(full.Edges) {
				if check.Graph(g, some(full, chosen)) == api.OK {
					accepted[false]++
				}
			}
			if len(accepted) != 1 || accepted[false] > 1 || accepted[false] == 1 && len(g.Edges) < 10 {
				t.Fatalf("P18.4: %v: accepted are so many rotations and parts: %v", g, accepted)
			}
		}
	}
}

// TestAllParts: P18.5: so many parts are subdivisions, and just these are accepted.
func TestAllParts(t *testing.T) {
	for _, x := range []struct {
		g    api.Graph
		want int
	}{
		{k5(), 1}, {k33(), 1}, {probe.Plus(k33(), [2]int{0, 1}), 1}, {probe.TwoPart(3, 4), 4}, {probe.Divided(k33(), 4, 2), 1},
		{probe.Complete(6), 76}, // K3,3 in 10 ways; K5 in 6, and in 60 with a vertex on an edge
		{probe.Beside(k5(), probe.Path(3)), 1}, {probe.Hung(k33(), 0, probe.Cycle(3), 0), 1}, {probe.Wheel(6), 0}, {probe.Hubs(probe.Path(4), 2), 0},
	} {
		count := 0
		for chosen := range 1 << len(x.g.Edges) {
			c := some(x.g, chosen)
			want := api.ErrNotKura
			if isKura(c.Edges) {
				want = api.OK
				count++
			}
			says(t, "P18.5", x.g, c, want)
		}
		if count != x.want {
			t.Errorf("%v: %d parts are subdivisions, want %d", x.g, count, x.want)
		}
	}
}

// thrownGraph: few vertices, planar or not.
func thrownGraph(d *probe.Dice) api.Graph {
	switch d.Below(6) {
	case 0:
		return d.Graph(d.Below(9), d.Below(101))
	case 1:
		return d.Renamed(probe.DividedAll(k5(), d.Below(3)))
	case 2:
		return d.Renamed(probe.Divided(k33(), d.Below(9), d.Below(4)))
	case 3:
		return d.Triangles(3+d.Below(12), d.Below(20))
	case 4:
		return d.Part(d.Triangles(5+d.Below(9), d.Below(20)), d.Below(60))
	}
	return d.Renamed(probe.Beside(d.Graph(d.Below(4), 60), k33(), d.Graph(d.Below(5), 80)))
}

// spoiled: a number or two, an edge, or the kind is another one.
func spoiled(d *probe.Dice, c api.Cert) api.Cert {
	c = api.Cert{Planar: c.Planar, Around: probe.CopyLists(c.Around), Edges: slices.Clone(c.Edges)}
	for range d.Below(3) {
		switch {
		case d.Below(40) == 0:
			c.Planar = !c.Planar
		case len(c.Around) > 0:
			c.Around = spoiledLists(d, c.Around)
		case len(c.Edges) > 0:
			c.Edges = spoiledEdges(d, c.Edges)
		}
	}
	return c
}

func spoiledLists(d *probe.Dice, around [][]int) [][]int {
	v := d.Below(len(around))
	list := around[v]
	if d.Below(30) == 0 {
		return slices.Delete(around, v, v+1)
	}
	if len(list) == 0 {
		around[v] = []int{d.Below(len(around))}
		return around
	}
	i := d.Below(len(list))
	switch d.Below(6) {
	case 0:
		list[i] = d.Below(len(around)+2) - 1
	case 1:
		around[v] = slices.Delete(list, i, i+1)
	case 2:
		around[v] = append(list, list[i])
	case 3:
		around[v] = probe.Turn(list, i)
	default:
		around[v] = append([]int{list[0]}, probe.Mixed(d, list[1:])...)
	}
	return around
}

func spoiledEdges(d *probe.Dice, edges []api.Edge) []api.Edge {
	i := d.Below(len(edges))
	switch d.Below(5) {
	case 0:
		return slices.Delete(edges, i, i+1)
	case 1:
		return slices.Insert(edges, i, edges[d.Below(len(edges))])
	case 2:
		return probe.Plus(api.Graph{Edges: edges}, [2]int{d.Below(15), d.Below(15)}).Edges
	case 3:
		edges[i].V += d.Below(3) - 1
	default:
		edges[i].U += d.Below(3) - 1
	}
	return edges
}

// TestThrown: P18.1: certificates that show what they say, and such as have been spoiled; and certificates of other graphs.
func TestThrown(t *testing.T) {
	d := probe.Dice(1801)
	with := make(map[api.Errno]int)
	var last api.Cert
	for range 6000 {
		g := thrownGraph(&d)
		c := found(t, g)
		if rightly(t, "P18.1", g, c) != api.OK {
			t.Fatalf("P18.1: %v: the certificate that was found is refused: %v", g, c)
		}
		for range 6 {
			with[rightly(t, "P18.1", g, spoiled(&d, c))]++
			with[rightly(t, "P18.1", g, ofRotation(g, d.Rotation(g)))]++
		}
		with[rightly(t, "P18.1", g, last)]++
		last = c
	}
	for _, code := range []api.Errno{api.OK, api.ErrBadCert, api.ErrBadRot, api.ErrNotFlat, api.ErrNotIn, api.ErrNotKura} {
		if with[code] < 1000 {
			t.Errorf("so many answers of each kind: %v", with)
		}
	}
}

// readRightly: P18.2, P18.3: what the chapter's words say of both texts.
func readRightly(t *testing.T, b, c string) api.Errno {
	t.Helper()
	g, reject := simple.Read([]byte(b))
	said, _, code := cert.Parse([]byte(c))
	want := api.OK
	switch {
	case reject.Code != api.OK:
		want = api.ErrBadGraph
	case code != api.OK:
		want = api.ErrBadCert
	default:
		want = slowly(g, said)
	}
	reads(t, "P18.2", b, c, want)
	return want
}

// marred: the text with a few bytes changed, put in or taken away.
func marred(d *probe.Dice, text string) string {
	b := []byte(text)
	for range d.Below(3) {
		at := d.Below(len(b) + 1)
		other := "0123456789 \n\npnx\r"[d.Below(17)]
		switch {
		case d.Below(3) == 0 || at == len(b):
			b = slices.Insert(b, at, other)
		case d.Below(2) == 0:
			b = slices.Delete(b, at, at+1)
		default:
			b[at] = other
		}
	}
	return string(b)
}

func TestThrownTexts(t *testing.T) {
	d := probe.Dice(1802)
	with := make(map[api.Errno]int)
	for range 6000 {
		g := thrownGraph(&d)
		b, c := textOf(&d, g), found(t, g)
		said, _ := cert.Print(c)
		reads(t, "P18.2", b, said, api.OK)
		for range 5 {
			other, code := cert.Print(spoiled(&d, c))
			if code == api.OK {
				with[readRightly(t, b, other)]++
			}
			with[readRightly(t, marred(&d, b), marred(&d, said))]++
			with[readRightly(t, b, marred(&d, said))]++
			with[readRightly(t, marred(&d, b), said)]++
		}
	}
	for _, code := range []api.Errno{api.OK, api.ErrBadGraph, api.ErrBadCert, api.ErrBadRot, api.ErrNotFlat, api.ErrNotIn, api.ErrNotKura} {
		if with[code] < 200 {
			t.Errorf("so many answers of each kind: %v", with)
		}
	}
}

func FuzzBytes(f *testing.F) {
	for _, x := range [][2]string{
		{"", ""}, {"0 0", "p 0\n"}, {"3 2\n0 1\n2 1\n", "p 3\n1\n0 2\n1\n"}, {"4 6\n0 1\n0 2\n0 3\n1 2\n1 3\n2 3", "p 4\n1 2 3\n0 3 2\n0 1 3\n0 2 1\n"},
		{"5 10\n0 1\n0 2\n0 3\n0 4\n1 2\n1 3\n1 4\n2 3\n2 4\n3 4\n", "n 10\n0 1\n0 2\n0 3\n0 4\n1 2\n1 3\n1 4\n2 3\n2 4\n3 4\n"},
	} {
		f.Add([]byte(x[0]), []byte(x[1]))
	}
	f.Fuzz(func(t *testing.T, b, c []byte) { readRightly(t, string(b), string(c)) })
}
