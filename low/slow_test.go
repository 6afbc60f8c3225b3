package low_test

import (
	"cmp"
	"slices"
	"testing"

	"tangram/api"
	"tangram/dfs"
	"tangram/low"
	"tangram/probe"
)

// leads: where the edge leads, the set's heights rising.
func leads(g api.Graph, f api.Forest, e int) []int {
	v, _ := probe.Ends(g, f.Orient[e])
	set := []int{f.Height[v]}
	for _, k := range probe.Returns(g, f, e) {
		_, to := probe.Ends(g, f.Orient[k])
		set = append(set, f.Height[to])
	}
	slices.Sort(set)
	return slices.Compact(set)
}

// slowOf: Of in the chapter's words.
func slowOf(g api.Graph, f api.Forest) api.Low {
	l := api.Low{Out: make([][]int, g.N)}
	for e := range g.Edges {
		v, _ := probe.Ends(g, f.Orient[e])
		set := leads(g, f, e)
		low := set[0]
		low2, nest := low, 2*low
		if len(set) > 1 {
			low2 = set[1]
		}
		if low2 > low && low2 < f.Height[v] {
			nest = 2*low + 1
		}
		l.Low, l.Low2, l.Nest = append(l.Low, low), append(l.Low2, low2), append(l.Nest, nest)
		l.Out[v] = append(l.Out[v], f.Orient[e])
	}
	for _, list := range l.Out {
		slices.SortFunc(list, func(h, k int) int { return cmp.Or(cmp.Compare(l.Nest[h/2], l.Nest[k/2]), cmp.Compare(h, k)) })
	}
	return l
}

// agrees: Of and Returns answer what the chapter's words say.
func agrees(t *testing.T, g api.Graph, f api.Forest) {
	t.Helper()
	if l, want := of(t, g, f), slowOf(g, f); !sameLow(l, want) {
		t.Fatalf("P8.1: Of(%v, %+v): %+v, want %+v", g, f, l, want)
	}
	for e := range g.Edges {
		if got, want := returns(t, g, f, e), probe.Returns(g, f, e); !slices.Equal(got, want) {
			t.Fatalf("P8.1: Returns(%v, %+v, %d): %v, want %v", g, f, e, got, want)
		}
	}
}

func TestBySlowAnswer(t *testing.T) {
	d := probe.Dice(81)
	for _, g := range probe.Small() {
		agrees(t, g, walked(t, g))
		agrees(t, g, d.Forest(g))
	}
}

// TestAllForests: of few vertices, all of them.
func TestAllForests(t *testing.T) {
	for n := range 5 {
		for _, g := range probe.Graphs(n) {
			for _, f := range probe.Forests(g) {
				agrees(t, g, f)
			}
		}
	}
}

// TestThinGraphs: long ways, that branch, with edges that lead back by few steps and by many.
func TestThinGraphs(t *testing.T) {
	d := probe.Dice(82)
	for range 60 {
		g := d.Thin(20+d.Below(60), d.Below(25))
		agrees(t, g, walked(t, g))
		agrees(t, g, d.Forest(g))
	}
}

// TestForestsWithNumbersChanged: what dfs.Valid refuses is refused, what it takes is answered.
func TestForestsWithNumbersChanged(t *testing.T) {
	d := probe.Dice(83)
	taken := 0
	for range 4000 {
		g := d.Graph(1+d.Below(9), 10+d.Below(80))
		f := d.Spoiled(g, d.Forest(g))
		if dfs.Valid(g, f) {
			agrees(t, g, f)
			taken++
		} else {
			refuses(t, g, f, api.ErrForest, "a number changed")
		}
	}
	if taken < 100 || taken > 2000 {
		t.Errorf("the test itself: %d of 4000 forests are right", taken)
	}
}

// kinds counts what a forest's edges are, so that the tests can tell that they have met all of it.
type kinds struct {
	back, bridge, one, same, unlike, ties, turned int
}

func (c *kinds) count(g api.Graph, f api.Forest) {
	l := slowOf(g, f)
	for e := range g.Edges {
		list, set := probe.Returns(g, f, e), leads(g, f, e)
		switch {
		case !probe.IsTree(g, f, e):
			c.back++
		case len(list) == 0:
			c.bridge++
		case len(list) == 1:
			c.one++
		case len(set) == 2:
			c.same++
		default:
			c.unlike++
		}
	}
	for _, out := range l.Out {
		for i := 1; i < len(out); i++ {
			if l.Nest[out[i-1]/2] == l.Nest[out[i]/2] {
				c.ties++
			}
			if out[i-1] > out[i] {
				c.turned++
			}
		}
	}
}

// TestWhatIsMet: the graphs above have tree edges without return edges, with one, with several to one height and to unlike ones; half-edges of one depth at a vertex, and such as stand ahead of a smaller number.
func TestWhatIsMet(t *testing.T) {
	var c kinds
	for _, g := range probe.Small() {
		c.count(g, walked(t, g))
	}
	d := probe.Dice(84)
	for range 20 {
		g := d.Thin(40, 12)
		c.count(g, d.Forest(g))
	}
	for name, count := range map[string]int{"back": c.back, "bridge": c.bridge, "one": c.one, "same": c.same, "unlike": c.unlike, "ties": c.ties, "turned": c.turned} {
		if count < 50 {
			t.Errorf("the test itself: %s: only %d", name, count)
		}
	}
}

// TestReturnsOfAll: each back edge is a return edge of itself, and of just the tree edges on its way that begin below where it leads.
func TestReturnsOfAll(t *testing.T) {
	d := probe.Dice(85)
	for range 40 {
		g := d.Thin(30, 20)
		f := d.Forest(g)
		times := make([]int, len(g.Edges))
		for e := range g.Edges {
			list, _ := low.Returns(g, f, e)
			for _, k := range list {
				times[k]++
			}
		}
		for e, count := range times {
			from, to := probe.Ends(g, f.Orient[e])
			want := f.Height[from] - f.Height[to]
			if probe.IsTree(g, f, e) {
				want = 0
			}
			if count != want {
				t.Fatalf("P8.1: %v, %+v: %d is the return edge of %d edges, not of %d", g, f, e, count, want)
			}
		}
	}
}
