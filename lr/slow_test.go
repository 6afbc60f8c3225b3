package lr_test

import (
	"slices"
	"testing"

	"tangram/api"
	"tangram/probe"
)

// words is what the chapter's words say of a forest.
type words struct {
	g       api.Graph
	f       api.Forest
	from    [][]int // by vertex, the edges that are walked from it
	returns [][]int // by edge, its return edges
	low     []int   // by edge
}

func slowly(g api.Graph, f api.Forest) words {
	x := words{g: g, f: f, from: make([][]int, g.N)}
	for e := range g.Edges {
		v, _ := probe.Ends(g, f.Orient[e])
		x.from[v] = append(x.from[v], e)
		list := probe.Returns(g, f, e)
		low := f.Height[v]
		for _, k := range list {
			low = min(low, x.height(k))
		}
		x.returns, x.low = append(x.returns, list), append(x.low, low)
	}
	return x
}

// height: of a return edge.
func (x words) height(k int) int {
	_, to := probe.Ends(x.g, x.f.Orient[k])
	return x.f.Height[to]
}

// above: the return edges of e whose height is above that.
func (x words) above(e, height int) []int {
	var list []int
	for _, k := range x.returns[e] {
		if x.height(k) > height {
			list = append(list, k)
		}
	}
	return list
}

// onOneSide: are all of these edges?
func onOneSide(p api.Partition, list []int) bool {
	for _, k := range list {
		if p[k] != p[list[0]] {
			return false
		}
	}
	return true
}

func (x words) leftRight(p api.Partition) bool {
	for _, edges := range x.from {
		for _, e1 := range edges {
			for _, e2 := range edges {
				if e1 != e2 && !x.apart(p, e1, e2) {
					return false
				}
			}
		}
	}
	return true
}

func (x words) apart(p api.Partition, e1, e2 int) bool {
	one, other := x.above(e1, x.low[e2]), x.above(e2, x.low[e1])
	if !onOneSide(p, one) || !onOneSide(p, other) {
		return false
	}
	return len(one) == 0 || len(other) == 0 || p[one[0]] != p[other[0]]
}

func (x words) aligned(p api.Partition) bool {
	for e, list := range x.returns {
		if !probe.IsTree(x.g, x.f, e) {
			continue
		}
		lowest := slices.DeleteFunc(slices.Clone(list), func(k int) bool { return x.height(k) != x.low[e] })
		if !onOneSide(p, lowest) {
			return false
		}
	}
	return true
}

// hasPartition: whether one of all partitions is left-right; and one left-right and aligned.
func (x words) hasPartition() (leftRight, aligned bool) {
	for p := range probe.Partitions(x.g, x.f) {
		if x.leftRight(p) {
			leftRight = true
			aligned = x.aligned(p)
		}
		if aligned {
			break
		}
	}
	return leftRight, aligned
}

// agreesOn: Valid answers what the words say of the partition.
func agreesOn(t *testing.T, x words, p api.Partition) bool {
	t.Helper()
	want := x.leftRight(p) && x.aligned(p)
	if got := valid(t, x.g, x.f, p); got != want {
		t.Fatalf("P10.1: Valid(%v, %+v, %v): %v, want %v (left-right %v, aligned %v)", x.g, x.f, p, got, want, x.leftRight(p), x.aligned(p))
	}
	return want
}

// testIsRight: Test's true and its partition, or its false, by the words.
func testIsRight(t *testing.T, g api.Graph) bool {
	t.Helper()
	x := slowly(g, walked(t, g))
	leftRight, aligned := x.hasPartition()
	if leftRight != aligned {
		t.Fatalf("the chapter: %v: left-right partitions %v, aligned ones %v", g, leftRight, aligned)
	}
	answeredIsRight(t, x, aligned)
	return aligned
}

// answeredIsRight: Test answers that, and if true a partition by the words.
func answeredIsRight(t *testing.T, x words, want bool) {
	t.Helper()
	p, ok := test(t, x.g)
	if ok != want || planar(t, x.g) != want || !ok && len(p) != 0 {
		t.Fatalf("P10.2: %v: Test %v, %v, Planar %v, want %v", x.g, p, ok, planar(t, x.g), want)
	}
	if !ok {
		return
	}
	for e := range x.g.Edges {
		if probe.IsTree(x.g, x.f, e) != (p[e] == 0) || p[e] < -1 || p[e] > 1 {
			t.Fatalf("P10.2: %v: the side of %d is %d", x.g, e, p[e])
		}
	}
	if len(p) != len(x.g.Edges) || !x.leftRight(p) || !x.aligned(p) {
		t.Fatalf("P10.2: Test(%v): %v: left-right %v, aligned %v", x.g, p, x.leftRight(p), x.aligned(p))
	}
	agreesOn(t, x, p)
}

// TestAllSmallGraphs: all graphs of up to six vertices, all partitions tried. Of n labelled vertices so many graphs are planar, as is known.
func TestAllSmallGraphs(t *testing.T) {
	for n, want := range []int{1, 1, 2, 8, 64, 1023, 32071} {
		count := 0
		for _, g := range probe.Graphs(n) {
			if testIsRight(t, g) {
				count++
			}
		}
		if count != want {
			t.Errorf("P10.2: %d graphs of %d vertices are planar, want %d", count, n, want)
		}
	}
}

// tally counts the answers, so that the tests can tell that they have met both.
type tally struct {
	yes, no int
}

func (c *tally) add(yes bool) {
	if yes {
		c.yes++
	} else {
		c.no++
	}
}

func (c *tally) both(t *testing.T, most int) {
	t.Helper()
	if min(c.yes, c.no) < most {
		t.Errorf("the test itself: true %d times, false %d times", c.yes, c.no)
	}
}

// TestThrownGraphs: of few enough edges to try all partitions.
func TestThrownGraphs(t *testing.T) {
	d := probe.Dice(105)
	var c tally
	for range 1500 {
		n := 7 + d.Below(6)
		g := d.Renamed(d.Thin(n, d.Below(10)))
		if len(g.Edges)-n > 10 {
			continue
		}
		c.add(testIsRight(t, g))
	}
	for range 300 {
		core := kuratowski()[d.Below(2)].g
		core = probe.DividedAll(core, d.Below(2))
		c.add(testIsRight(t, d.Renamed(d.Part(core, d.Below(8)))))
	}
	c.both(t, 100)
}

// TestAllPartitions: Valid of each partition of the walks of all graphs of five vertices.
func TestAllPartitions(t *testing.T) {
	var c tally
	for n := range 6 {
		for _, g := range probe.Graphs(n) {
			x := slowly(g, walked(t, g))
			for p := range probe.Partitions(g, x.f) {
				c.add(agreesOn(t, x, p))
			}
		}
	}
	c.both(t, 1000)
}

// TestAllForests: Valid of each partition of each forest, of few vertices.
func TestAllForests(t *testing.T) {
	var c tally
	for n := range 5 {
		for _, g := range probe.Graphs(n) {
			for _, f := range probe.Forests(g) {
				x := slowly(g, f)
				for p := range probe.Partitions(g, f) {
					c.add(agreesOn(t, x, p))
				}
			}
		}
	}
	c.both(t, 100)
}

// TestThrownForests: Valid of each partition of forests that aren't the walk.
func TestThrownForests(t *testing.T) {
	d := probe.Dice(106)
	var c tally
	others := 0
	for range 600 {
		n := 5 + d.Below(8)
		g := d.Thin(n, d.Below(9))
		if len(g.Edges)-n > 6 {
			continue
		}
		f := d.Forest(g)
		if !probe.SameForest(f, walked(t, g)) {
			others++
		}
		x := slowly(g, f)
		for p := range probe.Partitions(g, f) {
			c.add(agreesOn(t, x, p))
		}
	}
	c.both(t, 1000)
	if others < 300 {
		t.Errorf("the test itself: only %d forests that aren't the walk", others)
	}
}

// TestPlanarThrownGraphs: greater planar graphs, of all densities: the partition by the words, and with a few sides turned Valid by them.
func TestPlanarThrownGraphs(t *testing.T) {
	d := probe.Dice(107)
	var c tally
	for range 150 {
		n := 5 + d.Below(30)
		g := d.Part(d.Triangles(n, d.Below(3*n)), d.Below(3)*d.Below(40))
		x := slowly(g, walked(t, g))
		answeredIsRight(t, x, true)
		p, _ := test(t, g)
		for range 20 {
			c.add(agreesOn(t, x, d.FewSidesTurned(p)))
		}
	}
	c.both(t, 200)
}

// TestGraphsTooFull: with one edge more than a planar graph can have none is planar; the words say so of every partition that one throws.
func TestGraphsTooFull(t *testing.T) {
	d := probe.Dice(108)
	for range 100 {
		n := 5 + d.Below(20)
		g := d.Triangles(n, d.Below(3*n))
		for len(g.Edges) == 3*n-6 {
			g = probe.Plus(g, d.Pairs(n, 1)...)
		}
		x := slowly(g, walked(t, g))
		answeredIsRight(t, x, false)
		for range 5 {
			if agreesOn(t, x, d.Partition(g, x.f)) {
				t.Fatalf("the chapter: %v has a left-right partition", g)
			}
		}
	}
}
