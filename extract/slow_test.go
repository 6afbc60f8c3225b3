package extract_test

import (
	"math/bits"
	"slices"
	"testing"

	"tangram/api"
	"tangram/lr"
	"tangram/probe"
)

// The chapter's words over again: edge by edge, in their order. What isn't planar is told in two ways: by the left-right test, and, of few vertices, by all subdivisions of K5 and K3,3 that there are between them.

// slowMinimal: no numbers, if the graph is planar.
func slowMinimal(g api.Graph, planar func(api.Graph) bool) answer {
	if planar(g) {
		return answer{code: api.ErrPlanar}
	}
	left := probe.Rising(len(g.Edges))
	for e := range g.Edges {
		rest := slices.DeleteFunc(slices.Clone(left), func(x int) bool { return x == e })
		if !planar(part(g, rest)) {
			left = rest
		}
	}
	return answer{list: left}
}

// part: all vertices, and the edges of these numbers, which rise.
func part(g api.Graph, list []int) api.Graph {
	some := api.Graph{N: g.N}
	for _, e := range list {
		some.Edges = append(some.Edges, g.Edges[e])
	}
	return some
}

func planar(g api.Graph) bool {
	yes, code := lr.Planar(g)
	return yes && code == api.OK
}

// known: for n vertices, all subdivisions of K5 and K3,3 between them. A graph is a number there: the bits tell which edges it has, by their numbers in the full graph.
type known struct {
	number   map[api.Edge]int
	smallest []uint64
}

func knownOf(n int) known {
	k := known{number: make(map[api.Edge]int)}
	for i, e := range probe.Complete(n).Edges {
		k.number[e] = i
	}
	k.smallest = k.divided(n, k.bare(n))
	return k
}

func (k known) bit(u, v int) uint64 { return 1 << k.number[api.Edge{U: min(u, v), V: max(u, v)}] }

func (k known) bits(pairs [][2]int) uint64 {
	var set uint64
	for _, p := range pairs {
		set |= k.bit(p[0], p[1])
	}
	return set
}

// bare: K5 and K3,3 themselves, wherever they may lie.
func (k known) bare(n int) []uint64 {
	found := make(map[uint64]int)
	for _, base := range []api.Graph{k5(), k33()} {
		for _, names := range chosen(n, base.N) {
			for _, order := range probe.Arranged(names) {
				var pairs [][2]int
				for _, e := range base.Edges {
					pairs = append(pairs, [2]int{order[e.U], order[e.V]})
				}
				found[k.bits(pairs)]++
			}
		}
	}
	var all []uint64
	for set := range found {
		all = append(all, set)
	}
	return all
}

// chosen: all ways to take so many of n numbers.
func chosen(n, count int) [][]int {
	var all [][]int
	for set := range uint(1) << n {
		if bits.OnesCount(set) != count {
			continue
		}
		var list []int
		for x := range n {
			if set>>x&1 == 1 {
				list = append(list, x)
			}
		}
		all = append(all, list)
	}
	return all
}

// divided: with all that come of them when isolated vertices are put on edges.
func (k known) divided(n int, all []uint64) []uint64 {
	found := make(map[uint64]int)
	for _, set := range all {
		found[set]++
	}
	for i := 0; i < len(all); i++ {
		for w := range n {
			for _, next := range k.onEachEdge(n, all[i], w) {
				if found[next] == 0 {
					found[next]++
					all = append(all, next)
				}
			}
		}
	}
	slices.Sort(all)
	return all
}

// onEachEdge: the vertex w, which must be isolated, put on each edge in turn.
func (k known) onEachEdge(n int, set uint64, w int) []uint64 {
	var all []uint64
	for v := range n {
		if v != w && set&k.bit(v, w) != 0 {
			return nil
		}
		for u := range v {
			if u != w && v != w && set&k.bit(u, v) != 0 {
				all = append(all, set&^k.bit(u, v)|k.bit(u, w)|k.bit(v, w))
			}
		}
	}
	return all
}

// planar: has it none of them as a part?
func (k known) planar(g api.Graph) bool {
	set := k.bits(probe.Pairs(g))
	return !slices.ContainsFunc(k.smallest, func(small uint64) bool { return small&^set == 0 })
}

// TestHowManySubdivisions: what the slow answers lean on: of five vertices 1; of six 6 times K5, 60 times with a vertex on an edge, 10 times K3,3; of seven 3451.
func TestHowManySubdivisions(t *testing.T) {
	for n, want := range []int{0, 0, 0, 0, 0, 1, 76, 3451} {
		if got := len(knownOf(n).smallest); got != want {
			t.Errorf("%d vertices: %d subdivisions, want %d", n, got, want)
		}
	}
}

func TestAllSmallGraphs(t *testing.T) {
	left := 0
	for n := range 7 {
		k := knownOf(n)
		for _, g := range probe.Graphs(n) {
			want := slowMinimal(g, k.planar)
			says(t, g, want)
			if n == 6 && want.code == api.OK {
				left++
			}
		}
	}
	if want := 1<<15 - 32071; left != want {
		t.Errorf("%d graphs of six vertices have a smallest part, want %d: the others are planar", left, want)
	}
}

func TestSevenVertices(t *testing.T) {
	k := knownOf(7)
	d := probe.Dice(1602)
	for range 1000 {
		g := d.Graph(7, 40+d.Below(61))
		says(t, g, slowMinimal(g, k.planar))
	}
	for _, set := range k.smallest {
		g := probe.With(7)
		for i, e := range probe.Complete(7).Edges {
			if set>>i&1 == 1 {
				g.Edges = append(g.Edges, e)
			}
		}
		leaves(t, g, probe.Rising(len(g.Edges))...)
	}
}

// thrown: graphs of which most aren't planar, of many kinds, with about n vertices.
func thrown(d *probe.Dice, n int) []api.Graph {
	triangles := d.Triangles(n, 2*n)
	return []api.Graph{
		d.Thin(n, d.Below(n)),
		d.Renamed(d.Thin(n, d.Below(n))),
		d.Graph(n, d.Below(101)),
		probe.Plus(triangles, d.Pairs(n, 1+d.Below(3))...),
		probe.Plus(d.Part(triangles, d.Below(50)), d.Pairs(n, 1+d.Below(5))...),
		d.Renamed(probe.Beside(d.Thin(n/2, n/4), d.Graph(n/2, d.Below(101)))),
		d.Renamed(probe.DividedAll(d.Graph(5+d.Below(3), 60+d.Below(41)), 1+d.Below(3))),
		d.Renamed(probe.Plus(probe.Grid(3+d.Below(4), 3+d.Below(4)), d.Pairs(9, 1+d.Below(3))...)),
	}
}

// agrees: Minimal says what the chapter's words say.
func agrees(t *testing.T, g api.Graph) api.Errno {
	t.Helper()
	want := slowMinimal(g, planar)
	says(t, g, want)
	return want.code
}

func TestThrownGraphs(t *testing.T) {
	d := probe.Dice(1603)
	found := make(map[api.Errno]int)
	for range 100 {
		for _, g := range thrown(&d, 4+d.Below(30)) {
			found[agrees(t, g)]++
		}
	}
	if found[api.OK] < 300 || found[api.ErrPlanar] < 100 {
		t.Errorf("too few of one kind: %v", found)
	}
}

func TestKnownGraphs(t *testing.T) {
	d := probe.Dice(1604)
	for _, x := range probe.KnownGraphs() {
		for _, g := range []api.Graph{x.Graph, d.Renamed(x.Graph), d.Renamed(probe.DividedAll(x.Graph, 1))} {
			if code := agrees(t, g); x.Planar != (code == api.ErrPlanar) {
				t.Fatalf("P16.1: %s: Minimal(%v): %d", x.Name, probe.Shown(g), code)
			}
		}
	}
}
