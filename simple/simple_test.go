package simple_test

import (
	"bytes"
	"math"
	"slices"
	"strings"
	"testing"

	"tangram/api"
	"tangram/nums"
	"tangram/parse"
	"tangram/probe"
	"tangram/simple"
)

func graph(n int, edges ...api.Edge) api.Graph { return api.Graph{N: n, Edges: edges} }

// same: told apart by no means of the layer's.
func same(a, b api.Graph) bool { return a.N == b.N && slices.Equal(a.Edges, b.Edges) }

func shown(g api.Graph) api.Graph {
	if len(g.Edges) > 20 {
		g.Edges = g.Edges[:20]
	}
	return g
}

// made: Make answers just this graph.
func made(t *testing.T, promise string, n int, pairs [][2]int, want api.Graph) {
	t.Helper()
	g, code := simple.Make(n, pairs)
	if code != api.OK || !same(g, want) {
		t.Errorf("%s: Make(%d, %d pairs): %v, %d, want %v", promise, n, len(pairs), shown(g), code, shown(want))
	}
}

func refused(t *testing.T, n int, pairs [][2]int, want api.Errno) {
	t.Helper()
	g, code := simple.Make(n, pairs)
	if code != want || !same(g, api.Graph{}) {
		t.Errorf("P3.1: Make(%d, %d pairs): %v, %d, want %d", n, len(pairs), shown(g), code, want)
	}
}

// meant: the graph of the pairs, by a table of all pairs of vertices; false: a number is out of its range.
func meant(n int, pairs [][2]int) (api.Graph, bool) {
	if n < 0 {
		return api.Graph{}, false
	}
	joined := make([]bool, n*n)
	for _, p := range pairs {
		for _, v := range p {
			if v < 0 || v > n-1 {
				return api.Graph{}, false
			}
		}
		joined[p[0]*n+p[1]] = true
	}
	g := api.Graph{N: n}
	for u := 0; u < n; u++ {
		for v := u + 1; v < n; v++ {
			if joined[u*n+v] || joined[v*n+u] {
				g.Edges = append(g.Edges, api.Edge{U: u, V: v})
			}
		}
	}
	return g, true
}

func pairsOf(g api.Graph) [][2]int {
	var pairs [][2]int
	for _, e := range g.Edges {
		pairs = append(pairs, [2]int{e.U, e.V})
	}
	return pairs
}

func TestMakeOfExamples(t *testing.T) {
	made(t, "P3.1", 3, [][2]int{{2, 1}, {0, 0}, {1, 2}, {0, 2}}, graph(3, api.Edge{U: 0, V: 2}, api.Edge{U: 1, V: 2}))
	made(t, "P3.1", 0, nil, graph(0))
	made(t, "P3.1", 0, [][2]int{}, graph(0))
	made(t, "P3.1", 7, nil, graph(7))
	made(t, "P3.1", 1, [][2]int{{0, 0}}, graph(1))
	made(t, "P3.1", 3, [][2]int{{2, 2}, {0, 0}, {2, 2}, {1, 1}}, graph(3))
	made(t, "P3.1", 2, [][2]int{{1, 0}, {0, 1}, {1, 0}}, graph(2, api.Edge{U: 0, V: 1}))
	made(t, "P3.1", 12, [][2]int{{2, 11}, {10, 2}, {11, 10}, {9, 2}}, graph(12, api.Edge{U: 2, V: 9}, api.Edge{U: 2, V: 10}, api.Edge{U: 2, V: 11}, api.Edge{U: 10, V: 11}))
}

func TestMakeOfNumbersOutOfRange(t *testing.T) {
	for _, n := range []int{-1, -2, math.MinInt64, api.MaxN + 1, math.MaxInt64} {
		refused(t, n, nil, api.ErrRange)
		refused(t, n, [][2]int{{0, 0}}, api.ErrRange)
		refused(t, n, [][2]int{{0, 1}}, api.ErrRange)
	}
	for _, n := range []int{0, 1, 2, 5, api.MaxN} {
		for _, wrong := range []int{-1, n, n + 1, math.MinInt64, math.MaxInt64} {
			refused(t, n, [][2]int{{0, wrong}}, api.ErrRange)
			refused(t, n, [][2]int{{wrong, 0}}, api.ErrRange)
			refused(t, n, [][2]int{{wrong, wrong}}, api.ErrRange)
			refused(t, n, [][2]int{{0, 0}, {0, n - 1}, {wrong, 0}, {0, 0}}, api.ErrRange)
		}
	}
}

func TestMakeOfAllShortLists(t *testing.T) {
	for n := -1; n <= 3; n++ {
		var pairs [][2]int
		for u := -1; u <= n; u++ {
			for v := -1; v <= n; v++ {
				pairs = append(pairs, [2]int{u, v})
			}
		}
		for _, list := range probe.Lists(pairs, 3) {
			if want, ok := meant(n, list); ok {
				made(t, "P3.1", n, list, want)
			} else {
				refused(t, n, list, api.ErrRange)
			}
		}
	}
}

func TestMakeOfManyLists(t *testing.T) {
	d := probe.Dice(5)
	for range 3000 {
		n := 1 + d.Below(40)
		pairs := d.Pairs(n, d.Below(200))
		want, _ := meant(n, pairs)
		made(t, "P3.1", n, pairs, want)
	}
}

func TestMakeAtMaxN(t *testing.T) {
	made(t, "P3.1", api.MaxN, nil, graph(api.MaxN))
	made(t, "P3.1", api.MaxN, [][2]int{{api.MaxN - 1, 0}, {api.MaxN - 1, api.MaxN - 1}, {api.MaxN - 2, api.MaxN - 1}}, graph(api.MaxN, api.Edge{U: 0, V: api.MaxN - 1}, api.Edge{U: api.MaxN - 2, V: api.MaxN - 1}))
	refused(t, api.MaxN+1, nil, api.ErrRange)
}

func TestMakeAtMaxEdges(t *testing.T) {
	full := probe.Dense(api.MaxEdges)
	pairs := pairsOf(full)
	slices.Reverse(pairs)
	made(t, "P3.1", full.N, pairs, full)
	// Pairs beyond MaxEdges that leave no further edge: doubles in both orders, loops.
	for v := range full.N {
		pairs = append(pairs, [2]int{v, v}, [2]int{0, v}, [2]int{v, 0})
	}
	made(t, "P3.1, P3.9", full.N, pairs, full)
	pairs = append(pairs, [2]int{full.N, 0})
	refused(t, full.N+1, pairs, api.ErrBig)
	refused(t, full.N, pairs, api.ErrRange)
	// A number out of its range is told ahead of too many edges, though it stands behind them.
	refused(t, full.N+1, append(pairs, [2]int{0, full.N + 1}), api.ErrRange)
	refused(t, full.N+1, append(pairs, [2]int{-1, -1}), api.ErrRange)
	made(t, "P3.1", 2, slices.Repeat([][2]int{{1, 0}}, api.MaxEdges+1), graph(2, api.Edge{U: 0, V: 1}))
	made(t, "P3.1", 1, make([][2]int, api.MaxEdges+1), graph(1))
}

// rising: validity over again: each edge as one number, which must be above the one before.
func rising(g api.Graph) bool {
	last := -1
	for _, e := range g.Edges {
		at := e.U*1000 + e.V
		if e.U < 0 || e.V > g.N-1 || !(e.U < e.V) || at <= last {
			return false
		}
		last = at
	}
	return 0 <= g.N && g.N <= 1048576 && len(g.Edges) <= 4194304
}

func TestValidOfAllShortLists(t *testing.T) {
	for n := -1; n <= 4; n++ {
		var edges []api.Edge
		for u := -1; u <= 4; u++ {
			for v := -1; v <= 4; v++ {
				edges = append(edges, api.Edge{U: u, V: v})
			}
		}
		for _, list := range probe.Lists(edges, 3) {
			g := graph(n, list...)
			if simple.Valid(g) != rising(g) {
				t.Fatalf("P3.2: Valid(%v): %v", g, simple.Valid(g))
			}
		}
	}
}

func TestValidAtTheLimits(t *testing.T) {
	for _, g := range []api.Graph{{}, graph(0), {N: 5, Edges: []api.Edge{}}, graph(api.MaxN), graph(api.MaxN, api.Edge{U: api.MaxN - 2, V: api.MaxN - 1}), probe.Dense(api.MaxEdges)} {
		if !simple.Valid(g) {
			t.Errorf("P3.2: Valid(%v): false", shown(g))
		}
	}
	for _, g := range probe.Invalid() {
		if simple.Valid(g) {
			t.Errorf("P3.2: Valid(%v): true", shown(g))
		}
	}
}

func TestGraphsThatAreNotValid(t *testing.T) {
	right := graph(3, api.Edge{U: 0, V: 1})
	for _, g := range probe.Invalid() {
		edges := append([]api.Edge{{U: 0, V: 1}}, g.Edges[:min(3, len(g.Edges))]...)
		for _, e := range edges {
			if got := simple.Find(g, e); got != -1 {
				t.Errorf("P3.3: Find(%v, %v): %d", shown(g), e, got)
			}
		}
		for _, h := range []int{-1, 0, 1, 2, 3, 2*len(g.Edges) - 1, 2 * len(g.Edges)} {
			if from, to, ok := simple.Ends(g, h); from != 0 || to != 0 || ok {
				t.Errorf("P3.4: Ends(%v, %d): %d, %d, %v", shown(g), h, from, to, ok)
			}
		}
		if degrees, code := simple.Degrees(g); len(degrees) != 0 || code != api.ErrGraph {
			t.Errorf("P3.5: Degrees(%v): %v, %d", shown(g), degrees, code)
		}
		if simple.Same(g, g) || simple.Same(g, right) || simple.Same(right, g) {
			t.Errorf("P3.6: Same of %v", shown(g))
		}
		if text, code := simple.Text(g); text != "" || code != api.ErrGraph {
			t.Errorf("P3.7: Text(%v): %d bytes, %d", shown(g), len(text), code)
		}
	}
}

// someGraphs: all small ones, and some that are greater.
func someGraphs() []api.Graph {
	var all []api.Graph
	for n := range 6 {
		all = append(all, probe.Graphs(n)...)
	}
	d := probe.Dice(7)
	for range 200 {
		all = append(all, d.Graph(1+d.Below(30), d.Below(101)))
	}
	return append(all, graph(api.MaxN, api.Edge{U: 0, V: api.MaxN - 1}, api.Edge{U: 77, V: 78}, api.Edge{U: 77, V: api.MaxN - 1}))
}

func TestFind(t *testing.T) {
	for _, g := range someGraphs() {
		for u := -1; u <= min(g.N, 31); u++ {
			for v := -1; v <= min(g.N, 31); v++ {
				e := api.Edge{U: u, V: v}
				if got, want := simple.Find(g, e), slices.Index(g.Edges, e); got != want {
					t.Fatalf("P3.3: Find(%v, %v): %d, want %d", g, e, got, want)
				}
			}
		}
		for i, e := range g.Edges {
			if got := simple.Find(g, e); got != i {
				t.Fatalf("P3.3: Find(%v, %v): %d", g, e, got)
			}
			if got := simple.Find(g, api.Edge{U: e.V, V: e.U}); got != -1 {
				t.Fatalf("P3.3: Find(%v, %v turned about): %d", g, e, got)
			}
		}
		for _, far := range []api.Edge{{U: math.MinInt64, V: math.MaxInt64}, {U: math.MaxInt64, V: math.MaxInt64}, {U: 0, V: math.MinInt64}} {
			if got := simple.Find(g, far); got != -1 {
				t.Fatalf("P3.3: Find(%v, %v): %d", g, far, got)
			}
		}
	}
	full := probe.Dense(api.MaxEdges)
	for _, i := range []int{0, 1, 12345, api.MaxEdges - 1} {
		if got := simple.Find(full, full.Edges[i]); got != i {
			t.Errorf("P3.3: Find of the edge %d of MaxEdges: %d", i, got)
		}
	}
}

func TestEnds(t *testing.T) {
	for _, g := range append(someGraphs(), probe.Dense(300)) {
		for i, e := range g.Edges {
			if from, to, ok := simple.Ends(g, 2*i); from != e.U || to != e.V || !ok {
				t.Fatalf("P3.4: Ends(%v, %d): %d, %d, %v", g, 2*i, from, to, ok)
			}
			if from, to, ok := simple.Ends(g, 2*i+1); from != e.V || to != e.U || !ok {
				t.Fatalf("P3.4: Ends(%v, %d): %d, %d, %v", g, 2*i+1, from, to, ok)
			}
		}
		for _, h := range []int{-1, -2, 2 * len(g.Edges), 2*len(g.Edges) + 1, math.MinInt64, math.MaxInt64} {
			if from, to, ok := simple.Ends(g, h); from != 0 || to != 0 || ok {
				t.Fatalf("P3.4: Ends(%v, %d): %d, %d, %v", g, h, from, to, ok)
			}
		}
	}
	full := probe.Dense(api.MaxEdges)
	last := full.Edges[api.MaxEdges-1]
	if from, to, ok := simple.Ends(full, 2*api.MaxEdges-1); from != last.V || to != last.U || !ok {
		t.Errorf("P3.4: Ends of the last half-edge of MaxEdges edges: %d, %d, %v", from, to, ok)
	}
	if _, _, ok := simple.Ends(full, 2*api.MaxEdges); ok {
		t.Error("P3.4: Ends of a half-edge behind the last one")
	}
}

func TestDegrees(t *testing.T) {
	for _, g := range someGraphs() {
		want := make([]int, g.N)
		for v := range min(g.N, 100) {
			want[v] = len(slices.DeleteFunc(slices.Clone(g.Edges), func(e api.Edge) bool { return e.U != v && e.V != v }))
		}
		if g.N == api.MaxN {
			want[api.MaxN-1] = 2
		}
		if got, code := simple.Degrees(g); code != api.OK || !slices.Equal(got, want) {
			t.Fatalf("P3.5: Degrees(%v): %d numbers, %d", g, len(got), code)
		}
	}
	if got, code := simple.Degrees(graph(4, api.Edge{U: 0, V: 2}, api.Edge{U: 1, V: 2})); code != api.OK || !slices.Equal(got, []int{1, 1, 2, 0}) {
		t.Errorf("P3.5: Degrees of the example: %v, %d", got, code)
	}
}

func TestSame(t *testing.T) {
	var all []api.Graph
	for n := range 5 {
		all = append(all, probe.Graphs(n)...)
	}
	for i, a := range all {
		for j, b := range all {
			b.Edges = slices.Clone(b.Edges)
			if simple.Same(a, b) != (i == j) {
				t.Errorf("P3.6: Same(%v, %v): %v", a, b, i != j)
			}
		}
	}
	if !simple.Same(graph(3), api.Graph{N: 3, Edges: []api.Edge{}}) {
		t.Error("P3.6: no edges are no edges, whether nil or empty")
	}
}

// written: the text of a graph, by other means than a line's.
func written(g api.Graph) string {
	parts := []string{nums.Text(g.N) + " " + nums.Text(len(g.Edges))}
	for _, e := range g.Edges {
		parts = append(parts, nums.Text(e.U)+" "+nums.Text(e.V))
	}
	return strings.Join(parts, "\n") + "\n"
}

func TestText(t *testing.T) {
	for _, g := range someGraphs() {
		if text, code := simple.Text(g); code != api.OK || text != written(g) {
			t.Fatalf("P3.7: Text(%v): %q, %d", g, text, code)
		}
	}
	for want, g := range map[string]api.Graph{
		"0 0\n":             {},
		"1048576 0\n":       graph(api.MaxN),
		"3 2\n0 2\n1 2\n":   graph(3, api.Edge{U: 0, V: 2}, api.Edge{U: 1, V: 2}),
		"12 1\n2 11\n":      graph(12, api.Edge{U: 2, V: 11}),
		"3 0\n":             {N: 3, Edges: []api.Edge{}},
		"101 1\n10 100\n":   graph(101, api.Edge{U: 10, V: 100}),
		"11 2\n0 9\n0 10\n": graph(11, api.Edge{U: 0, V: 9}, api.Edge{U: 0, V: 10}),
	} {
		if text, code := simple.Text(g); code != api.OK || text != want {
			t.Errorf("P3.7: Text(%v): %q, %d, want %q", g, text, code, want)
		}
	}
}

// shortLines: m edges whose lines have 8 bytes at most.
func shortLines(m int) api.Graph {
	g := api.Graph{N: 100000}
	for u := 0; u < 1000; u++ {
		most := 100000
		if u >= 10 {
			most = 10000
		}
		if u >= 100 {
			most = 1000
		}
		for v := u + 1; v < most && len(g.Edges) < m; v++ {
			g.Edges = append(g.Edges, api.Edge{U: u, V: v})
		}
	}
	return g
}

func TestTextAtMaxM(t *testing.T) {
	for _, c := range []struct {
		m    int
		code api.Errno
	}{{api.MaxM - 1, api.OK}, {api.MaxM, api.OK}, {api.MaxM + 1, api.ErrBig}} {
		g := shortLines(c.m)
		want := written(g)
		if len(g.Edges) != c.m || len(want) > api.MaxBytes {
			t.Fatalf("the graph has %d edges and %d bytes", len(g.Edges), len(want))
		}
		if c.code != api.OK {
			want = ""
		}
		text, code := simple.Text(g)
		if code != c.code || text != want {
			t.Errorf("P3.7: Text of %d edges: %d bytes, %d", c.m, len(text), code)
		}
		if code == api.OK {
			if back, fault := simple.Read([]byte(text)); !same(back, g) || fault != (api.Reject{}) {
				t.Errorf("P3.9: Read of the Text of %d edges: %v, %v", c.m, shown(back), fault)
			}
		}
	}
	if text, code := simple.Text(probe.Dense(api.MaxEdges)); text != "" || code != api.ErrBig {
		t.Errorf("P3.7: Text of MaxEdges edges: %d bytes, %d", len(text), code)
	}
}

// longLines: MaxN vertices, some first edges, and m edges whose lines have 16 bytes.
func longLines(m int, first ...api.Edge) api.Graph {
	g := api.Graph{N: api.MaxN, Edges: slices.Clone(first)}
	for u := 1000000; ; u++ {
		for v := u + 1; v < api.MaxN; v++ {
			if m == 0 {
				return g
			}
			g.Edges = append(g.Edges, api.Edge{U: u, V: v})
			m--
		}
	}
}

func TestTextAtMaxBytes(t *testing.T) {
	// The header has 16 bytes too.
	lines := api.MaxBytes/16 - 1
	for _, c := range []struct {
		g     api.Graph
		bytes int
	}{
		{longLines(lines), api.MaxBytes},
		{longLines(lines-1, api.Edge{U: 0, V: 10000}, api.Edge{U: 0, V: 20000}), api.MaxBytes},
		{longLines(lines-1, api.Edge{U: 0, V: 20000}), api.MaxBytes - 8},
		{longLines(lines-1, api.Edge{U: 0, V: 20000}, api.Edge{U: 0, V: 200000}), api.MaxBytes + 1},
		{longLines(lines, api.Edge{U: 0, V: 1}), api.MaxBytes + 4},
		{longLines(lines + 1), api.MaxBytes + 16},
	} {
		want := written(c.g)
		if len(want) != c.bytes {
			t.Fatalf("the text has %d bytes, not %d", len(want), c.bytes)
		}
		text, code := simple.Text(c.g)
		if c.bytes > api.MaxBytes {
			if text != "" || code != api.ErrBig {
				t.Errorf("P3.7: Text of %d bytes: %d bytes, %d", c.bytes, len(text), code)
			}
			continue
		}
		if code != api.OK || text != want {
			t.Errorf("P3.7: Text of %d bytes: %d bytes, %d", c.bytes, len(text), code)
		}
		if back, fault := simple.Read([]byte(text)); !same(back, c.g) || fault != (api.Reject{}) {
			t.Errorf("P3.9: Read of a Text of %d bytes: %v, %v", c.bytes, shown(back), fault)
		}
	}
}

// readAs: Read of the bytes is what Raw and the table of all vertices say.
func readAs(t *testing.T, b []byte) {
	t.Helper()
	raw, fault := parse.Raw(b)
	want, _ := meant(raw.N, raw.Pairs)
	if got, no := simple.Read(b); !same(got, want) || no != fault {
		t.Fatalf("P3.8: Read(%q): %v, %v, want %v, %v", b, got, no, want, fault)
	}
}

func TestRead(t *testing.T) {
	for _, s := range probe.Texts("01 \n", 6) {
		readAs(t, []byte(s))
		readAs(t, []byte("2 1\n"+s))
	}
	for _, s := range probe.Texts("012 \n", 6) {
		readAs(t, []byte("3 2\n0 "+s))
	}
	d := probe.Dice(9)
	for range 2000 {
		n := 1 + d.Below(9)
		pairs := d.Pairs(n, d.Below(30))
		text := nums.Line(n, len(pairs))
		for _, p := range pairs {
			text += nums.Line(p[0], p[1])
		}
		readAs(t, []byte(text))
		if len(pairs) > 0 {
			readAs(t, []byte(text[:len(text)-d.Below(len(text))]))
		}
	}
}

func TestReadOfWrongBytes(t *testing.T) {
	for s, want := range map[string]api.Reject{
		"":                           {Code: api.ErrHeader, At: 0},
		"3":                          {Code: api.ErrHeader, At: 0},
		"3 1\n0 3\n":                 {Code: api.ErrVertex, At: 6},
		"3 1\n0 1 2\n":               {Code: api.ErrPair, At: 4},
		"3 2\n0 1\n":                 {Code: api.ErrFew, At: 8},
		"3 1\n0 1\n1 2\n":            {Code: api.ErrMany, At: 8},
		"1048577 0":                  {Code: api.ErrN, At: 0},
		"3 2097153":                  {Code: api.ErrM, At: 2},
		"3 1\n0 -1\n":                {Code: api.ErrByte, At: 6},
		"3 1\n0 01\n":                {Code: api.ErrNumber, At: 6},
		strings.Repeat(" ", 1<<24+1): {Code: api.ErrLong, At: 1 << 24},
	} {
		if g, no := simple.Read([]byte(s)); !same(g, api.Graph{}) || no != want {
			t.Errorf("P3.8: Read(%.20q): %v, %v, want %v", s, shown(g), no, want)
		}
	}
	if g, no := simple.Read([]byte("3 3\n2 1\n0 0\n2 0")); !same(g, graph(3, api.Edge{U: 0, V: 2}, api.Edge{U: 1, V: 2})) || no != (api.Reject{}) {
		t.Errorf("P3.8: Read of the example: %v, %v", g, no)
	}
}

func TestReadAtMaxBytes(t *testing.T) {
	room := bytes.Repeat([]byte{'\n'}, api.MaxBytes+1)
	copy(room, "2 2\n1 0\n1 1")
	if g, no := simple.Read(room[:api.MaxBytes]); !same(g, graph(2, api.Edge{U: 0, V: 1})) || no != (api.Reject{}) {
		t.Errorf("P3.8: Read of MaxBytes bytes: %v, %v", g, no)
	}
	if g, no := simple.Read(room); !same(g, api.Graph{}) || no != (api.Reject{Code: api.ErrLong, At: api.MaxBytes}) {
		t.Errorf("P3.8: Read of MaxBytes + 1 bytes: %v, %v", g, no)
	}
}

func TestOneFormOfAllPairs(t *testing.T) {
	d := probe.Dice(11)
	for _, g := range someGraphs() {
		made(t, "P3.9", g.N, pairsOf(g), g)
		for range 3 {
			made(t, "P3.9", g.N, d.Disorder(g), g)
		}
	}
}

func TestOneTextOfEachGraph(t *testing.T) {
	by := map[string]api.Graph{}
	for _, g := range someGraphs() {
		text, code := simple.Text(g)
		if code != api.OK {
			t.Fatalf("P3.9: Text(%v): %d", g, code)
		}
		if back, fault := simple.Read([]byte(text)); !same(back, g) || fault != (api.Reject{}) {
			t.Fatalf("P3.9: Read(Text(%v)): %v, %v", g, back, fault)
		}
		if other, ok := by[text]; ok && !same(other, g) {
			t.Fatalf("P3.9: %v and %v have one text", other, g)
		}
		by[text] = g
	}
}

func FuzzRead(f *testing.F) {
	for _, s := range []string{"", "0 0", "3 3\n2 1\n0 0\n2 0", "3 1\n0 3\n", "5 4\n4 3\n0 4\n3 0\n4 0\n"} {
		f.Add([]byte(s))
	}
	f.Fuzz(func(t *testing.T, b []byte) {
		g, no := simple.Read(b)
		if _, want := parse.Raw(b); no != want {
			t.Fatalf("P3.8: Read(%q): %v, want %v", b, no, want)
		}
		if !simple.Valid(g) {
			t.Fatalf("P3.8: Read(%q): %v", b, shown(g))
		}
		text, code := simple.Text(g)
		if back, _ := simple.Read([]byte(text)); code == api.OK && !same(back, g) {
			t.Fatalf("P3.9: Read(Text(%v)): %v", shown(g), shown(back))
		}
	})
}

func TestWhatIsHandedInIsNotChanged(t *testing.T) {
	pairs := [][2]int{{3, 1}, {2, 2}, {1, 3}, {0, 1}, {9, 9}, {8, 7}}
	before := slices.Clone(pairs)
	simple.Make(4, pairs[:4])
	simple.Make(3, pairs[:4])
	if !slices.Equal(pairs, before) {
		t.Errorf("R5: Make has changed its pairs: %v", pairs)
	}
	edges := []api.Edge{{U: 0, V: 1}, {U: 1, V: 3}, {U: 2, V: 3}, {U: 9, V: 1}, {U: 0, V: 0}}
	spare := slices.Clone(edges)
	for to := range len(edges) + 1 {
		g := graph(4, edges[:to]...)
		simple.Valid(g)
		simple.Find(g, api.Edge{U: 1, V: 3})
		simple.Ends(g, 1)
		simple.Degrees(g)
		simple.Same(g, g)
		simple.Text(g)
		if !slices.Equal(edges, spare) {
			t.Fatalf("R5: the edges have been changed: %v", edges)
		}
	}
	room := []byte("4 3\n3 1\n2 2\n1 3\nspare room")
	kept := bytes.Clone(room)
	for to := range len(room) + 1 {
		simple.Read(room[:to])
		if !bytes.Equal(room, kept) {
			t.Fatalf("R5: Read has changed its bytes: %q", room)
		}
	}
}

// spoil overwrites a list, spare room included.
func spoil[T any](list []T, with T) {
	list = list[:cap(list)]
	for i := range list {
		list[i] = with
	}
}

func TestAnswersAreNewMemory(t *testing.T) {
	bad := api.Edge{U: 9, V: 9}
	want := graph(4, api.Edge{U: 0, V: 1}, api.Edge{U: 1, V: 3})
	pairs := [][2]int{{0, 1}, {1, 3}}
	first, _ := simple.Make(4, pairs)
	second, _ := simple.Make(4, pairs)
	spoil(first.Edges, bad)
	spoil(pairs, [2]int{7, 7})
	if !same(second, want) {
		t.Errorf("R5: Make's answer shares memory: %v", second)
	}
	text := []byte("4 2\n3 1\n0 1\n")
	first, _ = simple.Read(text)
	second, _ = simple.Read(text)
	spoil(first.Edges, bad)
	spoil(text, 'x')
	if !same(second, want) {
		t.Errorf("R5: Read's answer shares memory: %v", second)
	}
	one, _ := simple.Degrees(want)
	two, _ := simple.Degrees(want)
	spoil(one, 99)
	if !slices.Equal(two, []int{1, 2, 0, 1}) || !same(want, graph(4, api.Edge{U: 0, V: 1}, api.Edge{U: 1, V: 3})) {
		t.Errorf("R5: Degrees' answer shares memory: %v", two)
	}
}

func TestCallsHangOnTheirArgumentsAlone(t *testing.T) {
	d := probe.Dice(13)
	g := d.Graph(200, 50)
	pairs := d.Disorder(g)
	for range 20 {
		made(t, "R8", g.N, pairs, g)
		refused(t, g.N-1, append(pairs, [2]int{g.N - 1, 0}), api.ErrRange)
		if text, _ := simple.Text(g); text != written(g) {
			t.Fatal("R8: Text differs from call to call")
		}
	}
}
