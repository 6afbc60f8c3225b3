package embed_test

import (
	"testing"

	"tangram/api"
	"tangram/dfs"
	"tangram/lr"
	"tangram/probe"
)

// tally counts the answers, so that the tests can tell that they have met both.
type tally struct {
	yes, no int
}

func (c *tally) add(yes bool) {
	if yes {
		c.yes++
	} else {
		c.no++
	}
}

func (c *tally) both(t *testing.T, least int) {
	t.Helper()
	if min(c.yes, c.no) < least {
		t.Errorf("the test itself: true %d times, false %d times", c.yes, c.no)
	}
}

// walk: the graph's.
func walk(t *testing.T, g api.Graph) api.Forest {
	t.Helper()
	f, code := dfs.Walk(g)
	if code != api.OK {
		t.Fatalf("the test itself: Walk(%v): %d", probe.Shown(g), code)
	}
	return f
}

// agrees: From takes the lists just if lr.Valid says that they are an aligned left-right partition of the walk.
func agrees(t *testing.T, g api.Graph, f api.Forest, p api.Partition) bool {
	t.Helper()
	want, code := lr.Valid(g, f, p)
	if want && code == api.OK {
		from(t, g, p)
		return true
	}
	refused(t, g, p, api.ErrPartition)
	return false
}

// TestAllSmallGraphs: all graphs of up to six vertices. Of n labelled vertices so many graphs are planar, as is known: so each true comes with a flat rotation, and there is no false too many.
func TestAllSmallGraphs(t *testing.T) {
	for n, want := range []int{1, 1, 2, 8, 64, 1023, 32071} {
		count := 0
		for _, g := range probe.Graphs(n) {
			planar, _ := lr.Planar(g)
			isPlanar(t, "a small graph", g, planar)
			if planar {
				count++
			}
		}
		if count != want {
			t.Errorf("P13.1: %d graphs of %d vertices are planar, want %d", count, n, want)
		}
	}
}

// rotations: how many canonical ones there are.
func rotations(g api.Graph) int {
	count := 1
	for _, list := range probe.Leaving(g) {
		for k := 2; k < len(list); k++ {
			count *= k
		}
	}
	return count
}

// TestAllRotations: Embed answers true just if one of all rotations is flat, and then such a one.
func TestAllRotations(t *testing.T) {
	d := probe.Dice(1303)
	var graphs []api.Graph
	for n := range 6 {
		graphs = append(graphs, probe.Graphs(n)...)
	}
	for range 300 {
		graphs = append(graphs, d.Renamed(d.Thin(6+d.Below(4), d.Below(7))))
		graphs = append(graphs, d.Part(kuratowski()[d.Below(2)], d.Below(8)))
	}
	var c tally
	for _, g := range graphs {
		if rotations(g) > 8000 {
			continue
		}
		flat := flatOnes(g)
		isPlanar(t, "by all rotations", g, len(flat) > 0)
		if len(flat) > 0 && !oneOf(embedded(t, "by all rotations", g), flat) {
			t.Fatalf("P13.1: %v: the rotation is none of the flat ones", g)
		}
		c.add(len(flat) > 0)
	}
	c.both(t, 50)
}

// TestAllPartitions: of the walks of all graphs of up to six vertices.
func TestAllPartitions(t *testing.T) {
	var c tally
	for n := range 7 {
		for _, g := range probe.Graphs(n) {
			if n == 6 && len(g.Edges) > 11 {
				continue
			}
			f := walk(t, g)
			for p := range probe.Partitions(g, f) {
				c.add(agrees(t, g, f, p))
			}
		}
	}
	c.both(t, 10_000)
}

// TestAllLists: of a few numbers, whatever they are, of graphs of few edges.
func TestAllLists(t *testing.T) {
	var c tally
	for n := range 5 {
		for _, g := range probe.Graphs(n) {
			if len(g.Edges) > 4 {
				continue
			}
			f := walk(t, g)
			for _, p := range probe.Lists([]int{-2, -1, 0, 1, 2}, len(g.Edges)+1) {
				c.add(agrees(t, g, f, p))
			}
		}
	}
	c.both(t, 50)
}

// TestPartitionsOfThrownGraphs: all partitions of graphs of more vertices, of few back edges each.
func TestPartitionsOfThrownGraphs(t *testing.T) {
	d := probe.Dice(1304)
	var c tally
	for range 600 {
		n := 6 + d.Below(10)
		g := d.Renamed(d.Thin(n, d.Below(9)))
		if len(g.Edges)-n > 7 {
			continue
		}
		f := walk(t, g)
		for p := range probe.Partitions(g, f) {
			c.add(agrees(t, g, f, p))
		}
	}
	c.both(t, 2000)
}
