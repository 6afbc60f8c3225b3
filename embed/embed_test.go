package embed_test

import (
	"math"
	"slices"
	"testing"

	"tangram/api"
	"tangram/embed"
	"tangram/faces"
	"tangram/lr"
	"tangram/probe"
	"tangram/rot"
)

// embedded: Embed answers true and a flat rotation.
func embedded(t *testing.T, name string, g api.Graph) api.Rotation {
	t.Helper()
	r, ok, code := embed.Embed(g)
	if !ok || code != api.OK {
		t.Fatalf("P13.1: %s: Embed(%v): %v, %d, want true", name, probe.Shown(g), ok, code)
	}
	isFlat(t, "P13.1: "+name, g, r)
	return r
}

// isFlat: it is a rotation of the graph, of genus 0.
func isFlat(t *testing.T, name string, g api.Graph, r api.Rotation) {
	t.Helper()
	if v, code := rot.Check(g, r); code != api.OK {
		t.Fatalf("%s: %v: no rotation: %d at %d", name, probe.Shown(g), code, v)
	}
	if !faces.Flat(g, r) {
		genus, _ := faces.Genus(g, r)
		t.Fatalf("%s: %v: %v has the genus %d", name, probe.Shown(g), r, genus)
	}
}

// notPlanar: Embed answers nothing and false.
func notPlanar(t *testing.T, name string, g api.Graph) {
	t.Helper()
	if r, ok, code := embed.Embed(g); ok || len(r) != 0 || code != api.OK {
		t.Fatalf("P13.1: %s: Embed(%v): %v, %v, %d, want nothing and false", name, probe.Shown(g), r, ok, code)
	}
}

// isPlanar: Embed says so, or says that it isn't.
func isPlanar(t *testing.T, name string, g api.Graph, want bool) {
	t.Helper()
	if want {
		embedded(t, name, g)
	} else {
		notPlanar(t, name, g)
	}
}

// from: the partition gives a flat rotation.
func from(t *testing.T, g api.Graph, p api.Partition) api.Rotation {
	t.Helper()
	r, code := embed.From(g, p)
	if code != api.OK {
		t.Fatalf("P13.2: From(%v, %v): %d, want OK", probe.Shown(g), p, code)
	}
	isFlat(t, "P13.2: From", g, r)
	return r
}

// refused: From answers this error and nothing else.
func refused(t *testing.T, g api.Graph, p api.Partition, want api.Errno) {
	t.Helper()
	if r, code := embed.From(g, p); len(r) != 0 || code != want {
		t.Fatalf("P13.2: R3: From(%v, %v): %v, %d, want %d", probe.Shown(g), p, r, code, want)
	}
}

// partition: the one that the left-right test answers.
func partition(t *testing.T, g api.Graph) api.Partition {
	t.Helper()
	p, ok, code := lr.Test(g)
	if !ok || code != api.OK {
		t.Fatalf("the test itself: Test(%v): %v, %d", probe.Shown(g), ok, code)
	}
	return p
}

// flatOnes: all flat rotations of a graph, canonical.
func flatOnes(g api.Graph) []api.Rotation {
	var all []api.Rotation
	for r := range probe.Rotations(g) {
		if faces.Flat(g, r) {
			all = append(all, r)
		}
	}
	return all
}

// oneOf: it is one of these rotations, wherever its lists begin.
func oneOf(r api.Rotation, all []api.Rotation) bool {
	return slices.ContainsFunc(all, func(other api.Rotation) bool { return rot.Same(r, other) })
}

// TestPath: the chapter's first example.
func TestPath(t *testing.T) {
	g := probe.Path(3)
	want := api.Rotation{{0}, {1, 2}, {3}}
	if r := embedded(t, "a path", g); !rot.Same(r, want) {
		t.Errorf("P13.1: %v: %v, want %v", g, r, want)
	}
	if r := from(t, g, api.Partition{0, 0}); !rot.Same(r, want) {
		t.Errorf("P13.2: %v: %v, want %v", g, r, want)
	}
}

// TestK4: the chapter's second example: two flat rotations, and the partitions of layer 10's example.
func TestK4(t *testing.T) {
	g := probe.Complete(4)
	flat := flatOnes(g)
	if len(flat) != 2 {
		t.Fatalf("the chapter: K4 has %d flat rotations", len(flat))
	}
	if r := embedded(t, "K4", g); !oneOf(r, flat) {
		t.Errorf("P13.1: K4: %v is none of %v", r, flat)
	}
	for _, a := range []int{1, -1} {
		for _, b := range []int{1, -1} {
			for _, c := range []int{1, -1} {
				p := api.Partition{0, a, b, 0, c, 0}
				if a != b {
					refused(t, g, p, api.ErrPartition)
				} else if r := from(t, g, p); !oneOf(r, flat) {
					t.Errorf("P13.2: K4: From(%v): %v is none of %v", p, r, flat)
				}
			}
		}
	}
}

// TestBareGraphs: the chapter's third example: without edges there is one empty list a vertex.
func TestBareGraphs(t *testing.T) {
	for _, n := range []int{0, 1, 2, 3, 40} {
		g := probe.With(n)
		for _, r := range []api.Rotation{embedded(t, "no edges", g), from(t, g, nil), from(t, g, api.Partition{})} {
			if !probe.SameLists(r, make([][]int, n)) {
				t.Errorf("P13.1: %v: %v", g, r)
			}
		}
		for _, side := range []int{0, 1, -1} {
			refused(t, g, api.Partition{side}, api.ErrPartition)
		}
	}
}

// TestKnownGraphs: what everybody knows, under other names, too.
func TestKnownGraphs(t *testing.T) {
	d := probe.Dice(1301)
	for _, c := range probe.KnownGraphs() {
		isPlanar(t, c.Name, c.Graph, c.Planar)
		isPlanar(t, c.Name+", other names", d.Renamed(c.Graph), c.Planar)
	}
}

// kuratowski: K5 and K3,3.
func kuratowski() []api.Graph { return []api.Graph{probe.Complete(5), probe.TwoPart(3, 3)} }

// TestKuratowskiGraphs: as they are, with vertices on their edges, side by side with others and hung on them; and without any one edge.
func TestKuratowskiGraphs(t *testing.T) {
	d := probe.Dice(1302)
	for _, k := range kuratowski() {
		for count := range 4 {
			g := probe.DividedAll(k, count)
			other := d.Triangles(3+d.Below(9), 9)
			notPlanar(t, "Kuratowski's", g)
			notPlanar(t, "Kuratowski's, other names", d.Renamed(g))
			notPlanar(t, "Kuratowski's ahead of another", probe.Beside(g, other))
			notPlanar(t, "Kuratowski's behind another", probe.Beside(other, g))
			notPlanar(t, "Kuratowski's hung on another", d.Renamed(probe.Hung(other, 1, g, 2)))
			for e := range g.Edges {
				less := probe.Without(g, e)
				embedded(t, "without an edge", less)
				embedded(t, "without an edge, other names", d.Renamed(less))
				embedded(t, "without an edge, beside another", d.Renamed(probe.Beside(less, other)))
				embedded(t, "without an edge, hung on another", d.Renamed(probe.Hung(other, 1, less, 2)))
			}
		}
	}
}

// TestNoPartitions: lengths, and one number after the other that is none of a side.
func TestNoPartitions(t *testing.T) {
	for _, g := range []api.Graph{probe.Complete(4), probe.Cycle(5), probe.Path(3), probe.Slanted(3, 3), probe.Beside(probe.Cycle(3), probe.With(2), probe.Wheel(4))} {
		p := partition(t, g)
		from(t, g, p)
		for count := range p {
			refused(t, g, p[:count], api.ErrPartition)
		}
		for _, more := range []int{0, 1, -1} {
			refused(t, g, append(slices.Clone(p), more), api.ErrPartition)
		}
		for e, side := range p {
			wrong := []int{2, -2, 3, 255, 257, 1 << 32, 1<<32 + 1, 1<<32 - 1, -1<<32 - 1, math.MaxInt, math.MinInt, math.MinInt + 1}
			if side == 0 {
				wrong = append(wrong, 1, -1)
			} else {
				wrong = append(wrong, 0)
			}
			for _, other := range wrong {
				q := slices.Clone(p)
				q[e] = other
				refused(t, g, q, api.ErrPartition)
			}
		}
	}
}

// TestPartitionsOfGraphsThatAreNotPlanar: all are refused, what is none at all, too.
func TestPartitionsOfGraphsThatAreNotPlanar(t *testing.T) {
	for _, g := range append(kuratowski(), probe.Petersen()) {
		for p := range probe.Partitions(g, walk(t, g)) {
			refused(t, g, p, api.ErrPartition)
		}
		refused(t, g, nil, api.ErrPartition)
		refused(t, g, make(api.Partition, len(g.Edges)), api.ErrPartition)
	}
}

// notAGraph: ErrGraph and nothing else, whatever partition comes with it.
func notAGraph(t *testing.T, g api.Graph) {
	t.Helper()
	if r, ok, code := embed.Embed(g); ok || len(r) != 0 || code != api.ErrGraph {
		t.Fatalf("P13.1: R2: R3: Embed(%v): %v, %v, %d, want ErrGraph", probe.Shown(g), r, ok, code)
	}
	count := min(len(g.Edges), 100)
	for _, p := range []api.Partition{nil, {}, {7}, make(api.Partition, count), slices.Repeat(api.Partition{1}, count), slices.Repeat(api.Partition{-1}, count+1)} {
		refused(t, g, p, api.ErrGraph)
	}
}

func TestGraphsThatAreNotValid(t *testing.T) {
	for _, g := range probe.Invalid() {
		notAGraph(t, g)
	}
}

// TestGraphsWithOneFault: a planar graph and one that isn't, one edge changed; with the partition of what it was.
func TestGraphsWithOneFault(t *testing.T) {
	p := partition(t, probe.Wheel(4))
	for _, make := range []func() api.Graph{func() api.Graph { return probe.Wheel(4) }, func() api.Graph { return probe.Complete(5) }} {
		for e := range make().Edges {
			for _, wrong := range []api.Edge{{U: 1, V: 0}, {U: 3, V: 3}, {U: 0, V: 5}, {U: -1, V: 2}, {U: math.MinInt, V: math.MaxInt}} {
				g := make()
				g.Edges[e] = wrong
				notAGraph(t, g)
				refused(t, g, p, api.ErrGraph)
			}
		}
	}
}
