package lr_test

import (
	"math"
	"slices"
	"testing"

	"tangram/api"
	"tangram/dfs"
	"tangram/lr"
	"tangram/probe"
)

func walked(t *testing.T, g api.Graph) api.Forest {
	t.Helper()
	f, code := dfs.Walk(g)
	if code != api.OK {
		t.Fatalf("Walk(%v): %d", probe.Shown(g), code)
	}
	return f
}

func test(t *testing.T, g api.Graph) (api.Partition, bool) {
	t.Helper()
	p, ok, code := lr.Test(g)
	if code != api.OK {
		t.Fatalf("P10.2: Test(%v): %d", probe.Shown(g), code)
	}
	return p, ok
}

func valid(t *testing.T, g api.Graph, f api.Forest, p api.Partition) bool {
	t.Helper()
	ok, code := lr.Valid(g, f, p)
	if code != api.OK {
		t.Fatalf("P10.1: Valid(%v): %d", probe.Shown(g), code)
	}
	return ok
}

func planar(t *testing.T, g api.Graph) bool {
	t.Helper()
	ok, code := lr.Planar(g)
	if code != api.OK {
		t.Fatalf("P10.2: Planar(%v): %d", probe.Shown(g), code)
	}
	return ok
}

// isPlanar: all calls say just this of the graph.
func isPlanar(t *testing.T, name string, g api.Graph, want bool) {
	t.Helper()
	p, ok := test(t, g)
	if ok != want || planar(t, g) != want {
		t.Fatalf("P10.2: %s: %v: Test %v, Planar %v, want %v", name, probe.Shown(g), ok, planar(t, g), want)
	}
	if !ok && len(p) != 0 {
		t.Fatalf("P10.2: %s: %v: false, and the partition %v", name, probe.Shown(g), p)
	}
	if ok && !valid(t, g, walked(t, g), p) {
		t.Fatalf("P10.2: %s: %v: the partition %v isn't left-right and aligned", name, probe.Shown(g), p)
	}
}

func TestKnownGraphs(t *testing.T) {
	d := probe.Dice(101)
	for _, c := range probe.KnownGraphs() {
		isPlanar(t, c.Name, c.Graph, c.Planar)
		isPlanar(t, c.Name+", other names", d.Renamed(c.Graph), c.Planar)
	}
}

// TestNothingToPart: a graph without edges, and one without cycles.
func TestNothingToPart(t *testing.T) {
	for _, n := range []int{0, 1, 2, 7} {
		if p, ok := test(t, probe.OfEnds(n)); len(p) != 0 || !ok {
			t.Errorf("P10.2: no edges: %v, %v", p, ok)
		}
	}
	for _, g := range []api.Graph{probe.Path(6), probe.Star(6, 4)} {
		if p, ok := test(t, g); !slices.Equal(p, make(api.Partition, 5)) || !ok {
			t.Errorf("P10.2: %v: %v, %v", g, p, ok)
		}
	}
}

// TestExample: the chapter's first: of K4 those are valid that have {0 2} and {0 3} on one side.
func TestExample(t *testing.T) {
	g := probe.Complete(4)
	f := walked(t, g)
	for _, a := range []int{1, -1} {
		for _, b := range []int{1, -1} {
			for _, c := range []int{1, -1} {
				if got := valid(t, g, f, api.Partition{0, a, b, 0, c, 0}); got != (a == b) {
					t.Errorf("P10.1: K4: [0 %d %d 0 %d 0]: %v", a, b, c, got)
				}
			}
		}
	}
}

// saysOf: Valid of all partitions of three back edges of a walk is what the sides a, b, c of these are told to make of it.
func saysOf(t *testing.T, g api.Graph, want func(a, b, c int) bool) {
	t.Helper()
	f := walked(t, g)
	count := 0
	for p := range probe.Partitions(g, f) {
		sides := slices.DeleteFunc(slices.Clone(p), func(side int) bool { return side == 0 })
		if got := valid(t, g, f, p); got != want(sides[0], sides[1], sides[2]) {
			t.Errorf("P10.1: %v: %v: %v", g, p, got)
		}
		count++
	}
	if count != 8 {
		t.Errorf("the test itself: %v: %d partitions", g, count)
	}
}

// TestThreeBackEdges: ways from 0 on down, with three back edges, by hand.
func TestThreeBackEdges(t *testing.T) {
	// At 2 stand {0 2} (height 0) and {2 3}, of which {0 4} (height 0) and {1 3} (height 1) are return edges: {1 3} is above Low of {0 2}, none is above Low of {2 3}. Out of {1 2} {0 2} and {0 4} come to the height 0.
	saysOf(t, probe.OfEnds(5, 0, 1, 0, 2, 0, 4, 1, 2, 1, 3, 2, 3, 3, 4), func(a, b, c int) bool { return a == b })
	// At 3 stand {0 3} (height 0) and {3 4}, of which {1 4} (height 1) and {2 5} (height 2) are return edges: both are above Low of {0 3}.
	saysOf(t, probe.OfEnds(6, 0, 1, 0, 3, 1, 2, 1, 4, 2, 3, 2, 5, 3, 4, 4, 5), func(a, b, c int) bool { return b == c })
	// At 3 stand {1 3} (height 1) and {3 4}, of which {0 4} (height 0) and {2 4} (height 2) are return edges: {1 3} is above Low of {3 4}, {2 4} above Low of {1 3}.
	saysOf(t, probe.OfEnds(5, 0, 1, 0, 4, 1, 2, 1, 3, 2, 3, 2, 4, 3, 4), func(a, b, c int) bool { return b != c })
	// At 2 stand {2 3} and {2 4}; each has one return edge of height 0, {2 4} one of height 1 too.
	saysOf(t, probe.OfEnds(5, 0, 1, 0, 3, 0, 4, 1, 2, 1, 4, 2, 3, 2, 4), func(a, b, c int) bool { return a == b })
	// The same with {1 3} instead of {0 3}: it is above Low of {2 4}, nothing of {2 4} above Low of {2 3}, which is 1.
	saysOf(t, probe.OfEnds(5, 0, 1, 0, 4, 1, 2, 1, 3, 1, 4, 2, 3, 2, 4), func(a, b, c int) bool { return true })
}

// critical is a graph that isn't planar.
type critical struct {
	name string
	g    api.Graph
	want bool // is it planar without any one edge?
}

func kuratowski() []critical {
	return []critical{{"K5", probe.Complete(5), true}, {"K3,3", probe.TwoPart(3, 3), true}, {"Petersen's graph", probe.Petersen(), false}}
}

func TestKuratowskiGraphs(t *testing.T) {
	for _, c := range kuratowski() {
		isPlanar(t, c.name, c.g, false)
		for e := range c.g.Edges {
			isPlanar(t, c.name+" without an edge", probe.Without(c.g, e), c.want)
		}
	}
}

// TestDividedKuratowskiGraphs: vertices on one edge, on all, under other names; and without any one edge then.
func TestDividedKuratowskiGraphs(t *testing.T) {
	d := probe.Dice(102)
	for _, c := range kuratowski() {
		for e := range c.g.Edges {
			for count := range 4 {
				isPlanar(t, c.name+" with vertices on an edge", d.Renamed(probe.Divided(c.g, e, count)), false)
			}
		}
		for count := range 4 {
			g := d.Renamed(probe.DividedAll(c.g, count))
			isPlanar(t, c.name+" with vertices on its edges", g, false)
			for e := range g.Edges {
				isPlanar(t, c.name+" with vertices on its edges, without an edge", probe.Without(g, e), c.want)
			}
		}
	}
}

// TestKuratowskiGraphsWithin: as a part of a greater graph, side by side with a planar one, hung on one by a vertex: and the same of them without one edge.
func TestKuratowskiGraphsWithin(t *testing.T) {
	d := probe.Dice(103)
	for _, c := range kuratowski() {
		for round := range 60 {
			other := d.Part(d.Triangles(3+d.Below(20), d.Below(40)), d.Below(60))
			core, want := c.g, false
			if round%2 == 1 {
				core, want = probe.Without(c.g, d.Below(len(c.g.Edges))), c.want
			}
			core = probe.DividedAll(core, d.Below(2))
			hung := probe.Hung(other, d.Below(other.N), core, d.Below(core.N))
			isPlanar(t, c.name+" beside another", d.Renamed(probe.Beside(core, other)), want)
			isPlanar(t, c.name+" behind another", probe.Beside(other, core), want)
			isPlanar(t, c.name+" hung on another", d.Renamed(hung), want)
			isPlanar(t, c.name+" as a part", d.Renamed(probe.Plus(probe.Beside(c.g, other), d.Pairs(c.g.N+other.N, d.Below(9))...)), false)
		}
	}
}

// refusedPartition: ErrPartition and false.
func refusedPartition(t *testing.T, g api.Graph, f api.Forest, p api.Partition) {
	t.Helper()
	if ok, code := lr.Valid(g, f, p); ok || code != api.ErrPartition {
		t.Fatalf("P10.1: R3: Valid(%v, %v): %v, %d, want ErrPartition", g, p, ok, code)
	}
}

// TestNoPartitions: lengths, and one number after the other that is none of a side.
func TestNoPartitions(t *testing.T) {
	graphs := []api.Graph{probe.Complete(4), probe.Cycle(5), probe.Path(3), probe.Slanted(3, 3), probe.Beside(probe.Cycle(3), probe.OfEnds(2), probe.Wheel(4))}
	for _, g := range graphs {
		f := walked(t, g)
		p, _ := test(t, g)
		for count := range p {
			refusedPartition(t, g, f, p[:count])
		}
		for _, more := range []int{0, 1, -1} {
			refusedPartition(t, g, f, append(slices.Clone(p), more))
		}
		for e := range p {
			wrong := []int{2, -2, 3, 255, 257, 1 << 32, 1<<32 + 1, 1<<32 - 1, -1<<32 - 1, math.MaxInt64, math.MinInt64, math.MinInt64 + 1}
			if probe.IsTree(g, f, e) {
				wrong = append(wrong, 1, -1)
			} else {
				wrong = append(wrong, 0)
			}
			for _, side := range wrong {
				q := slices.Clone(p)
				q[e] = side
				refusedPartition(t, g, f, q)
			}
		}
		if !valid(t, g, f, p) {
			t.Errorf("P10.1: %v: %v", g, p)
		}
	}
	for _, g := range []api.Graph{probe.OfEnds(0), probe.OfEnds(4)} {
		refusedPartition(t, g, walked(t, g), api.Partition{0})
		refusedPartition(t, g, walked(t, g), api.Partition{1})
	}
}

// TestPartitionOfAGraphThatIsNotPlanar: it is a partition, and never valid; what isn't one is refused.
func TestPartitionOfAGraphThatIsNotPlanar(t *testing.T) {
	for _, c := range kuratowski() {
		f := walked(t, c.g)
		for p := range probe.Partitions(c.g, f) {
			if valid(t, c.g, f, p) {
				t.Fatalf("P10.1: %s: %v", c.name, p)
			}
		}
		refusedPartition(t, c.g, f, nil)
		refusedPartition(t, c.g, f, make(api.Partition, len(c.g.Edges)))
	}
}

// TestTheOrderOfErrors: ErrGraph ahead of ErrForest, that ahead of ErrPartition.
func TestTheOrderOfErrors(t *testing.T) {
	good := probe.Complete(4)
	f := walked(t, good)
	right := api.Partition{0, 1, 1, 0, 1, 0}
	bad := probe.Complete(4)
	bad.Edges[0], bad.Edges[1] = bad.Edges[1], bad.Edges[0]
	badForest := probe.CopyForest(f)
	badForest.Height[2]++
	for _, c := range []struct {
		g    api.Graph
		f    api.Forest
		p    api.Partition
		want api.Errno
	}{
		{bad, badForest, nil, api.ErrGraph}, {bad, badForest, right, api.ErrGraph}, {bad, f, nil, api.ErrGraph}, {bad, f, right, api.ErrGraph},
		{good, badForest, nil, api.ErrForest}, {good, badForest, right, api.ErrForest}, {good, api.Forest{}, nil, api.ErrForest}, {good, walked(t, probe.Path(4)), right, api.ErrForest},
		{good, f, nil, api.ErrPartition}, {good, f, api.Partition{0, 1, -1, 0, 1, 0, 0}, api.ErrPartition}, {good, f, api.Partition{0, 1, -1, 0, 1, 1}, api.ErrPartition},
		{good, f, right, api.OK},
	} {
		if ok, code := lr.Valid(c.g, c.f, c.p); ok != (c.want == api.OK) || code != c.want {
			t.Errorf("R2: Valid(%v, %+v, %v): %v, %d, want %d", c.g, c.f, c.p, ok, code, c.want)
		}
	}
}

// refused: ErrGraph and nothing else, whatever forest and partition come with it.
func refused(t *testing.T, g api.Graph) {
	t.Helper()
	if p, ok, code := lr.Test(g); code != api.ErrGraph || ok || len(p) != 0 {
		t.Fatalf("R2: R3: Test(%v): %v, %v, %d", probe.Shown(g), p, ok, code)
	}
	if ok, code := lr.Planar(g); code != api.ErrGraph || ok {
		t.Fatalf("R2: R3: Planar(%v): %v, %d", probe.Shown(g), ok, code)
	}
	edges := slices.Repeat([]int{0}, min(len(g.Edges), 100))
	for _, f := range []api.Forest{{}, {Orient: edges}, {Parent: []int{-1}, Height: []int{0}, Order: []int{0}}} {
		for _, p := range []api.Partition{nil, edges, {1, 2, 3}} {
			if ok, code := lr.Valid(g, f, p); code != api.ErrGraph || ok {
				t.Fatalf("R2: R3: Valid(%v): %v, %d", probe.Shown(g), ok, code)
			}
		}
	}
}

func TestGraphsThatAreNotValid(t *testing.T) {
	for _, g := range probe.Invalid() {
		refused(t, g)
	}
}

// TestGraphsWithOneFault: a planar graph and one that isn't, with one edge changed.
func TestGraphsWithOneFault(t *testing.T) {
	for _, make := range []func() api.Graph{func() api.Graph { return probe.Wheel(4) }, func() api.Graph { return probe.Complete(5) }} {
		for e := range make().Edges {
			for _, wrong := range []api.Edge{{U: 1, V: 0}, {U: 3, V: 3}, {U: 0, V: 5}, {U: -1, V: 2}, {U: math.MinInt64, V: math.MaxInt64}} {
				g := make()
				g.Edges[e] = wrong
				refused(t, g)
			}
		}
	}
}

// TestForestsThatAreNone: with a number changed what isn't a depth-first forest any more is refused, whatever the partition.
func TestForestsThatAreNone(t *testing.T) {
	d := probe.Dice(104)
	taken := 0
	for range 4000 {
		g := d.Graph(1+d.Below(8), 10+d.Below(70))
		f := d.Spoiled(g, d.Forest(g))
		if dfs.Valid(g, f) {
			agreesOn(t, slowly(g, f), d.Partition(g, f))
			taken++
			continue
		}
		for _, p := range []api.Partition{nil, make(api.Partition, len(g.Edges)), slices.Repeat(api.Partition{1}, len(g.Edges))} {
			if ok, code := lr.Valid(g, f, p); ok || code != api.ErrForest {
				t.Fatalf("P10.1: Valid(%v, %+v, %v): %v, %d, want ErrForest", g, f, p, ok, code)
			}
		}
	}
	if taken < 100 || taken > 2000 {
		t.Errorf("the test itself: %d of 4000 forests are right", taken)
	}
}
