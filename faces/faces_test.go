package faces_test

import (
	"math"
	"slices"
	"testing"

	"tangram/api"
	"tangram/faces"
	"tangram/probe"
	"tangram/rot"
)

// told is what the calls tell of a rotation.
type told struct {
	faces [][]int
	left  []int
	genus int
}

// accepted: all calls take the lists as a rotation of the graph, and Flat agrees with Genus.
func accepted(t *testing.T, g api.Graph, r api.Rotation) told {
	t.Helper()
	all, code := faces.Of(g, r)
	if code != api.OK {
		t.Fatalf("P12.1: Of(%v, %v): %d, want OK", probe.Shown(g), r, code)
	}
	left, code := faces.Left(g, r)
	if code != api.OK {
		t.Fatalf("P12.2: Left(%v, %v): %d, want OK", probe.Shown(g), r, code)
	}
	genus, code := faces.Genus(g, r)
	if code != api.OK {
		t.Fatalf("P12.3: Genus(%v, %v): %d, want OK", probe.Shown(g), r, code)
	}
	if flat := faces.Flat(g, r); flat != (genus == 0) {
		t.Fatalf("P12.4: Flat(%v, %v): %v; its genus is %d", probe.Shown(g), r, flat, genus)
	}
	return told{all, left, genus}
}

// refused: all calls answer this error and nothing else; Flat answers false.
func refused(t *testing.T, g api.Graph, r api.Rotation, want api.Errno) {
	t.Helper()
	if all, code := faces.Of(g, r); len(all) != 0 || code != want {
		t.Fatalf("P12.1: R3: Of(%v, %v): %v, %d, want %d", probe.Shown(g), r, all, code, want)
	}
	if left, code := faces.Left(g, r); len(left) != 0 || code != want {
		t.Fatalf("P12.2: R3: Left(%v, %v): %v, %d, want %d", probe.Shown(g), r, left, code, want)
	}
	if genus, code := faces.Genus(g, r); genus != 0 || code != want {
		t.Fatalf("P12.3: R3: Genus(%v, %v): %d, %d, want %d", probe.Shown(g), r, genus, code, want)
	}
	if faces.Flat(g, r) {
		t.Fatalf("P12.4: Flat(%v, %v): true, want false by the error %d", probe.Shown(g), r, want)
	}
}

// has: the rotation has just these faces, so numbered, and this genus.
func has(t *testing.T, g api.Graph, r api.Rotation, genus int, want ...[]int) {
	t.Helper()
	got := accepted(t, g, r)
	if !probe.SameLists(got.faces, want) {
		t.Errorf("P12.1: Of(%v, %v): %v, want %v", g, r, got.faces, want)
	}
	left := make([]int, 2*len(g.Edges))
	for number, face := range want {
		for _, h := range face {
			left[h] = number
		}
	}
	if !slices.Equal(got.left, left) {
		t.Errorf("P12.2: Left(%v, %v): %v, want %v", g, r, got.left, left)
	}
	if got.genus != genus {
		t.Errorf("P12.3: Genus(%v, %v): %d, want %d", g, r, got.genus, genus)
	}
}

// TestExamples: the chapter's.
func TestExamples(t *testing.T) {
	has(t, probe.Cycle(3), api.Rotation{{0, 2}, {1, 4}, {3, 5}}, 0, []int{0, 4, 3}, []int{1, 2, 5})
	has(t, probe.Path(3), api.Rotation{{0}, {1, 2}, {3}}, 0, []int{0, 2, 3, 1})
	has(t, probe.Complete(4), api.Rotation{{0, 2, 4}, {1, 8, 6}, {3, 7, 10}, {5, 11, 9}}, 0, []int{0, 8, 5}, []int{1, 2, 7}, []int{3, 4, 11}, []int{6, 10, 9})
	has(t, probe.Complete(4), api.Rotation{{0, 2, 4}, {1, 6, 8}, {3, 7, 10}, {5, 9, 11}}, 1, []int{0, 6, 10, 5}, []int{1, 2, 7, 8, 11, 3, 4, 9})
	has(t, probe.With(2), api.Rotation{{}, {}}, 0)
	has(t, probe.With(0), api.Rotation{}, 0)
	refused(t, probe.Cycle(3), api.Rotation{{0, 2}, {1, 4}}, api.ErrRotLength)
}

// TestExamplesOfTheWhole: DOC.md's fifth, sixth and seventh.
func TestExamplesOfTheWhole(t *testing.T) {
	for r := range probe.Rotations(probe.Beside(probe.Cycle(3), probe.Cycle(3))) {
		has(t, probe.Beside(probe.Cycle(3), probe.Cycle(3)), r, 0, []int{0, 4, 3}, []int{1, 2, 5}, []int{6, 10, 9}, []int{7, 8, 11})
	}
	has(t, probe.With(3), api.Rotation{{}, {}, {}}, 0)
	if got := accepted(t, probe.Complete(4), api.Rotation{{0, 4, 2}, {1, 6, 8}, {3, 10, 7}, {5, 9, 11}}); got.genus != 0 || len(got.faces) != 4 {
		t.Errorf("P12.3: K4: %+v", got)
	}
}

// TestByHand: faces that go by both sides of an edge, that meet vertices several times; lists that begin anywhere.
func TestByHand(t *testing.T) {
	has(t, probe.Path(2), api.Rotation{{0}, {1}}, 0, []int{0, 1})
	has(t, probe.Star(4, 0), api.Rotation{{4, 0, 2}, {1}, {3}, {5}}, 0, []int{0, 1, 2, 3, 4, 5})
	has(t, probe.Star(4, 0), api.Rotation{{2, 0, 4}, {1}, {3}, {5}}, 0, []int{0, 1, 4, 5, 2, 3})
	tail := probe.With(4, api.Edge{U: 0, V: 1}, api.Edge{U: 0, V: 2}, api.Edge{U: 1, V: 2}, api.Edge{U: 2, V: 3})
	has(t, tail, api.Rotation{{2, 0}, {1, 4}, {5, 6, 3}, {7}}, 0, []int{0, 4, 6, 7, 3}, []int{1, 2, 5})
	has(t, tail, api.Rotation{{2, 0}, {1, 4}, {5, 3, 6}, {7}}, 0, []int{0, 4, 3}, []int{1, 2, 6, 7, 5})
	bow := probe.With(5, api.Edge{U: 0, V: 1}, api.Edge{U: 0, V: 2}, api.Edge{U: 0, V: 3}, api.Edge{U: 0, V: 4}, api.Edge{U: 1, V: 2}, api.Edge{U: 3, V: 4})
	has(t, bow, api.Rotation{{0, 2, 4, 6}, {1, 8}, {3, 9}, {5, 10}, {7, 11}}, 0, []int{0, 8, 3, 4, 10, 7}, []int{1, 2, 9}, []int{5, 6, 11})
	has(t, bow, api.Rotation{{0, 4, 2, 6}, {1, 8}, {3, 9}, {5, 10}, {7, 11}}, 1, []int{0, 8, 3, 6, 11, 5, 2, 9, 1, 4, 10, 7})
	has(t, probe.With(5, api.Edge{U: 0, V: 4}, api.Edge{U: 1, V: 3}), api.Rotation{{0}, {2}, {}, {3}, {1}}, 0, []int{0, 1}, []int{2, 3})
}

// TestSums: components of several genera, isolated vertices between them: each counts for itself.
func TestSums(t *testing.T) {
	flat := [][]int{{1, 2, 3}, {0, 3, 2}, {0, 1, 3}, {0, 2, 1}}
	curved := [][]int{{1, 2, 3}, {0, 2, 3}, {0, 1, 3}, {0, 1, 2}}
	alone := [][]int{{}}
	for _, c := range []struct {
		genus, faces int
		parts        [][][]int
	}{
		{1, 6, [][][]int{curved, flat}}, {1, 6, [][][]int{alone, flat, alone, curved, alone}},
		{2, 4, [][][]int{curved, curved}}, {3, 6, [][][]int{curved, alone, curved, alone, alone, curved}},
		{0, 8, [][][]int{flat, flat}}, {0, 8, [][][]int{alone, flat, alone, alone, flat}},
	} {
		var around [][]int
		var pairs [][2]int
		for _, part := range c.parts {
			first := len(around)
			for v, list := range part {
				var names []int
				for _, w := range list {
					names = append(names, first+w)
					pairs = append(pairs, [2]int{first + v, first + w})
				}
				around = append(around, names)
			}
		}
		g := probe.OfPairs(len(around), pairs)
		got := accepted(t, g, turnedBy(t, g, around))
		if got.genus != c.genus || len(got.faces) != c.faces {
			t.Errorf("P12.3: %v: genus %d with %d faces, want %d with %d", around, got.genus, len(got.faces), c.genus, c.faces)
		}
	}
}

// turnedBy: the rotation in which these vertices stand round each vertex.
func turnedBy(t *testing.T, g api.Graph, around [][]int) api.Rotation {
	t.Helper()
	r, v, code := rot.From(g, around)
	if code != api.OK {
		t.Fatalf("the test itself: From(%v): %d, %d", probe.Shown(g), v, code)
	}
	return r
}

// TestBareGraphs: without edges there is no face.
func TestBareGraphs(t *testing.T) {
	for _, n := range []int{0, 1, 2, 3, 40} {
		has(t, probe.With(n), make(api.Rotation, n), 0)
		refused(t, probe.With(n), make(api.Rotation, n+1), api.ErrRotLength)
		for v := range n {
			r := make(api.Rotation, n)
			r[v] = []int{0}
			refused(t, probe.With(n), r, api.ErrRotHalf)
		}
	}
}

// ordinary: graphs of the kinds that everybody knows.
func ordinary() []api.Graph {
	all := []api.Graph{
		probe.With(0), probe.With(1), probe.With(3), probe.With(9, api.Edge{U: 3, V: 7}), probe.Petersen(),
		probe.Beside(probe.Cycle(3), probe.Cycle(3)),
		probe.Beside(probe.Complete(4), probe.With(2), probe.Cycle(5), probe.Path(1), probe.Star(6, 2), probe.Path(4), probe.With(1)),
		probe.Hung(probe.Complete(4), 3, probe.Wheel(5), 2),
	}
	for n := 2; n < 9; n++ {
		all = append(all, probe.Path(n), probe.Complete(n), probe.Star(n, 0), probe.Star(n, n/2), probe.Star(n, n-1))
		for m := 2; m < 6; m++ {
			all = append(all, probe.TwoPart(n, m), probe.Grid(n, m), probe.Slanted(n, m))
		}
		all = append(all, probe.Cycle(n+1), probe.Wheel(n+1))
	}
	return all
}

// TestLengths: too few lists and too many: ErrRotLength, whatever stands in them.
func TestLengths(t *testing.T) {
	for _, g := range ordinary() {
		r := api.Rotation(probe.Leaving(g))
		for count := range g.N {
			refused(t, g, r[:count], api.ErrRotLength)
			refused(t, g, make(api.Rotation, count), api.ErrRotLength)
		}
		for _, more := range [][][]int{{nil}, {{0}}, {{-1}}, {nil, nil}} {
			refused(t, g, slices.Concat(r, more), api.ErrRotLength)
		}
		if g.N > 0 {
			refused(t, g, nil, api.ErrRotLength)
			refused(t, g, api.Rotation{}, api.ErrRotLength)
		}
	}
}

// notAGraph: ErrGraph and nothing else, whatever lists come with it.
func notAGraph(t *testing.T, g api.Graph) {
	t.Helper()
	count := 3
	if g.N >= 0 && g.N < 1000 {
		count = g.N
	}
	for _, lists := range []api.Rotation{nil, {}, {{}}, {{0}, {1}}, {{-1}, {math.MaxInt}}, make(api.Rotation, count), make(api.Rotation, count+1)} {
		refused(t, g, lists, api.ErrGraph)
	}
}

func TestGraphsThatAreNotValid(t *testing.T) {
	for _, g := range probe.Invalid() {
		notAGraph(t, g)
	}
}

// TestGraphsWithOneFault: its edges changed one by one, with a rotation of what it was.
func TestGraphsWithOneFault(t *testing.T) {
	r := api.Rotation(probe.Leaving(probe.Wheel(4)))
	for e := range probe.Wheel(4).Edges {
		for _, wrong := range []api.Edge{{U: 1, V: 0}, {U: 3, V: 3}, {U: 0, V: 5}, {U: -1, V: 2}, {U: math.MinInt, V: math.MaxInt}} {
			bad := probe.Wheel(4)
			bad.Edges[e] = wrong
			notAGraph(t, bad)
			refused(t, bad, r, api.ErrGraph)
		}
	}
}

// TestTheOrderOfErrors: R2: ErrGraph, ErrRotLength, then what is wrong first at the lowest vertex.
func TestTheOrderOfErrors(t *testing.T) {
	good, bad := probe.Cycle(3), probe.With(3, api.Edge{U: 0, V: 1}, api.Edge{U: 1, V: 2}, api.Edge{U: 0, V: 2})
	for _, c := range []struct {
		r    api.Rotation
		want api.Errno
	}{
		{api.Rotation{{0, 2}, {1, 4}}, api.ErrRotLength},
		{api.Rotation{{9}, {1, 1}}, api.ErrRotLength},
		{api.Rotation{{0, 2}, {1, 4}, {3, 5}, {0}}, api.ErrRotLength},
		{api.Rotation{{0, 1}, {1, 4}, {3, 5}}, api.ErrRotHalf},
		{api.Rotation{{0, 2, 6}, {1, 1}, {3}}, api.ErrRotHalf},
		{api.Rotation{{0, -1}, {}, {}}, api.ErrRotHalf},
		{api.Rotation{{0, math.MinInt}, {}, {}}, api.ErrRotHalf},
		{api.Rotation{{0, 2}, {math.MaxInt, 1, 1}, {3, 5}}, api.ErrRotHalf},
		{api.Rotation{{0, 2}, {1, 1}, {3, 5}}, api.ErrRotTwice},
		{api.Rotation{{0, 0, 1}, {1}, {9}}, api.ErrRotTwice},
		{api.Rotation{{0, 2}, {1, 4}, {3}}, api.ErrRotMissing},
		{api.Rotation{{}, {1, 1}, {9}}, api.ErrRotMissing},
	} {
		refused(t, good, c.r, c.want)
		refused(t, bad, c.r, api.ErrGraph)
	}
	refused(t, bad, api.Rotation{{0, 2}, {1, 4}, {3, 5}}, api.ErrGraph)
}
