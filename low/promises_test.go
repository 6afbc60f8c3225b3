package low_test

import (
	"slices"
	"testing"

	"tangram/api"
	"tangram/comps"
	"tangram/probe"
)

// eachForest: the walk and a thrown forest of many graphs.
func eachForest(t *testing.T, ask func(g api.Graph, f api.Forest)) {
	t.Helper()
	d := probe.Dice(86)
	graphs := probe.Small()
	for range 100 {
		graphs = append(graphs, d.Thin(20+d.Below(60), d.Below(25)))
	}
	for _, g := range graphs {
		ask(g, walked(t, g))
		ask(g, d.Forest(g))
	}
}

// TestLowAndReturns: P8.2.
func TestLowAndReturns(t *testing.T) {
	eachForest(t, func(g api.Graph, f api.Forest) {
		l := of(t, g, f)
		for e := range g.Edges {
			v, _ := probe.Ends(g, f.Orient[e])
			if l.Low[e] < 0 || l.Low[e] > l.Low2[e] || l.Low2[e] > f.Height[v] {
				t.Fatalf("P8.2: %v: Low %d, Low2 %d of %d, from height %d", g, l.Low[e], l.Low2[e], e, f.Height[v])
			}
			none := len(returns(t, g, f, e)) == 0
			if (l.Low[e] == l.Low2[e]) != none || (l.Low[e] == f.Height[v]) != none {
				t.Fatalf("P8.2: %v: Low %d, Low2 %d of %d, from height %d; no return edges: %v", g, l.Low[e], l.Low2[e], e, f.Height[v], none)
			}
		}
	})
}

// isBridge: without the edge there is a component more.
func isBridge(g api.Graph, e int) bool {
	_, with, _ := comps.Of(g)
	_, without, _ := comps.Of(api.Graph{N: g.N, Edges: slices.Delete(slices.Clone(g.Edges), e, e+1)})
	return without > with
}

// TestBridges: P8.2: an edge that leads back above where it begins is no bridge.
func TestBridges(t *testing.T) {
	bridges := 0
	eachForest(t, func(g api.Graph, f api.Forest) {
		l := of(t, g, f)
		for e := range g.Edges {
			v, _ := probe.Ends(g, f.Orient[e])
			bridge := isBridge(g, e)
			if bridge {
				bridges++
			}
			if bridge && l.Low[e] < f.Height[v] {
				t.Fatalf("P8.2: %v: the bridge %d has Low %d, from height %d", g, e, l.Low[e], f.Height[v])
			}
		}
	})
	if bridges < 1000 {
		t.Errorf("the test itself: only %d bridges", bridges)
	}
}

// TestLowByWhatGoesOn: P8.3.
func TestLowByWhatGoesOn(t *testing.T) {
	eachForest(t, func(g api.Graph, f api.Forest) {
		goesOn(t, g, f, of(t, g, f))
	})
}

// goesOn: Low of a tree edge is the least of its begin's height and of the Lows of the edges that are walked from its end; that of a back edge the height where it ends.
func goesOn(t *testing.T, g api.Graph, f api.Forest, l api.Low) {
	t.Helper()
	least := slices.Clone(f.Height) // by vertex: of its height and the Lows from there; its own height is greater than that of its parent
	for e, h := range f.Orient {
		v, _ := probe.Ends(g, h)
		least[v] = min(least[v], l.Low[e])
	}
	for e, h := range f.Orient {
		v, w := probe.Ends(g, h)
		want := f.Height[w]
		if f.Parent[w] == h {
			want = min(f.Height[v], least[w])
		}
		if l.Low[e] != want {
			t.Fatalf("P8.3: %v: Low of %d: %d, want %d", probe.Shown(g), e, l.Low[e], want)
		}
	}
}

// TestOut: P8.4.
func TestOut(t *testing.T) {
	eachForest(t, func(g api.Graph, f api.Forest) {
		outReaches(t, g, f, of(t, g, f))
	})
}

// outReaches: each oriented half-edge stands once in Out, where it begins, by depths and numbers; and by Out all vertices are reached from the roots.
func outReaches(t *testing.T, g api.Graph, f api.Forest, l api.Low) {
	t.Helper()
	if len(l.Out) != g.N {
		t.Fatalf("P8.4: %v: Out of %d vertices", probe.Shown(g), len(l.Out))
	}
	times := make([]int, len(g.Edges))
	for v, list := range l.Out {
		for i, h := range list {
			from, _ := probe.Ends(g, h)
			if from != v || f.Orient[h/2] != h {
				t.Fatalf("P8.4: %v: %d stands at %d; it begins at %d; walked is %d", probe.Shown(g), h, v, from, f.Orient[h/2])
			}
			times[h/2]++
			if i > 0 && (l.Nest[list[i-1]/2] > l.Nest[h/2] || l.Nest[list[i-1]/2] == l.Nest[h/2] && list[i-1] >= h) {
				t.Fatalf("P8.1: %v: at %d stands %d ahead of %d", probe.Shown(g), v, list[i-1], h)
			}
		}
	}
	for e, count := range times {
		if count != 1 {
			t.Fatalf("P8.4: %v: the edge %d stands %d times in Out", probe.Shown(g), e, count)
		}
	}
	if count := reached(g, f, l); count != g.N {
		t.Fatalf("P8.4: %v: %d of %d vertices are reached", probe.Shown(g), count, g.N)
	}
}

// reached: how many vertices one comes to from the roots by the half-edges of Out.
func reached(g api.Graph, f api.Forest, l api.Low) int {
	var list []int
	seen := make([]bool, g.N)
	for v, h := range f.Parent {
		if h == -1 {
			list, seen[v] = append(list, v), true
		}
	}
	for i := 0; i < len(list); i++ {
		for _, h := range l.Out[list[i]] {
			if _, w := probe.Ends(g, h); !seen[w] {
				list, seen[w] = append(list, w), true
			}
		}
	}
	return len(list)
}
