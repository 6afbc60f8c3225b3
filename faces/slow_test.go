package faces_test

import (
	"math"
	"slices"
	"testing"

	"tangram/api"
	"tangram/probe"
	"tangram/rot"
)

// The chapter's words over again: each step is sought in the lists; components are what edges join, vertex by vertex.

// slowStep: the next of the twin of h, in the list in which that stands.
func slowStep(r api.Rotation, h int) int {
	for _, list := range r {
		switch i := slices.Index(list, h^1); {
		case i == -1:
		case i == len(list)-1:
			return list[0]
		default:
			return list[i+1]
		}
	}
	return -1
}

// slowFaces: the face of each half-edge, kept if it is the least in it.
func slowFaces(g api.Graph, r api.Rotation) [][]int {
	var all [][]int
	for h := range 2 * len(g.Edges) {
		face := []int{h}
		for k := slowStep(r, h); k != h; k = slowStep(r, k) {
			face = append(face, k)
		}
		if h == slices.Min(face) {
			all = append(all, face)
		}
	}
	return all
}

func slowLeft(g api.Graph, all [][]int) []int {
	var left []int
	for h := range 2 * len(g.Edges) {
		left = append(left, slices.IndexFunc(all, func(face []int) bool { return slices.Contains(face, h) }))
	}
	return left
}

// leastJoined: by vertex the least one of its component.
func leastJoined(g api.Graph) []int {
	least := probe.Rising(g.N)
	for range g.N {
		for _, e := range g.Edges {
			both := min(least[e.U], least[e.V])
			least[e.U], least[e.V] = both, both
		}
	}
	return least
}

// slowGenus: the sum over the components.
func slowGenus(t *testing.T, g api.Graph, all [][]int) int {
	t.Helper()
	least := leastJoined(g)
	sum := 0
	for v := range g.N {
		if least[v] != v {
			continue
		}
		n, m, f := 0, 0, 0
		for _, w := range least {
			if w == v {
				n++
			}
		}
		for _, e := range g.Edges {
			if least[e.U] == v {
				m++
			}
		}
		for _, face := range all {
			if from, _ := probe.Ends(g, face[0]); least[from] == v {
				f++
			}
		}
		if m == 0 {
			continue
		}
		if (2-n+m-f)%2 != 0 {
			t.Fatalf("the test itself: %v: %d vertices, %d edges, %d faces", g, n, m, f)
		}
		sum += (2 - n + m - f) / 2
	}
	return sum
}

// agrees: all calls of a rotation are what the chapter says; its genus.
func agrees(t *testing.T, g api.Graph, r api.Rotation) int {
	t.Helper()
	got := accepted(t, g, r)
	want := slowFaces(g, r)
	if !probe.SameLists(got.faces, want) {
		t.Fatalf("P12.1: Of(%v, %v): %v, want %v", g, r, got.faces, want)
	}
	if left := slowLeft(g, want); !slices.Equal(got.left, left) {
		t.Fatalf("P12.2: Left(%v, %v): %v, want %v", g, r, got.left, left)
	}
	if genus := slowGenus(t, g, want); got.genus != genus {
		t.Fatalf("P12.3: Genus(%v, %v): %d, want %d", g, r, got.genus, genus)
	}
	return got.genus
}

// TestAllRotations: of all graphs of up to four vertices, wherever lists begin; of those of five the canonical ones, and turned.
func TestAllRotations(t *testing.T) {
	for n := range 5 {
		for _, g := range probe.Graphs(n) {
			for r := range probe.TurnedRotations(g) {
				agrees(t, g, r)
			}
		}
	}
	d := probe.Dice(1201)
	for _, g := range probe.Graphs(5) {
		for r := range probe.Rotations(g) {
			agrees(t, g, d.Turned(r))
		}
	}
}

func TestRotationsOfOrdinaryGraphs(t *testing.T) {
	d := probe.Dice(1202)
	for _, g := range ordinary() {
		for range 4 {
			r := d.Rotation(g)
			for _, same := range []api.Rotation{r, rot.Canon(r), rot.Mirror(r), d.Turned(r)} {
				agrees(t, g, same)
			}
		}
	}
}

// TestThrownRotations: graphs of several components among them.
func TestThrownRotations(t *testing.T) {
	d := probe.Dice(1203)
	genera := map[int]int{}
	for range 400 {
		n := 1 + d.Below(12)
		for _, g := range []api.Graph{d.Graph(n, d.Below(101)), d.Thin(3+n, d.Below(6)), d.Renamed(probe.Beside(d.Graph(n, 60), probe.With(d.Below(3)), d.Graph(5, 80)))} {
			genera[min(agrees(t, g, d.Rotation(g)), 3)]++
		}
	}
	for genus := range 4 {
		if genera[genus] < 50 {
			t.Errorf("the test itself: genera %v", genera)
		}
	}
}

// spoiled: the lists with a number or two changed, put in or taken out, or lists changed about, or one list more or less.
func spoiled(d *probe.Dice, lists [][]int, numbers []int) [][]int {
	lists = probe.CopyLists(lists)
	if d.Below(10) == 0 {
		return append(lists, numbers[:d.Below(2)])
	}
	if d.Below(10) == 0 {
		return lists[1:]
	}
	for range 1 + d.Below(3) {
		v := d.Below(len(lists))
		list := lists[v]
		at := d.Below(len(list) + 1)
		x := numbers[d.Below(len(numbers))]
		switch {
		case d.Below(12) == 0:
			w := d.Below(len(lists))
			lists[v], lists[w] = lists[w], lists[v]
		case at == len(list) || d.Below(3) == 0:
			if len(list) > 0 && d.Below(2) == 0 {
				x = list[d.Below(len(list))]
			}
			lists[v] = slices.Insert(list, at, x)
		case d.Below(2) == 0:
			lists[v] = slices.Delete(list, at, at+1)
		default:
			list[at] = x
		}
	}
	return lists
}

// TestSpoiledRotations: the error is the one that rot.Check finds; without one they are a rotation.
func TestSpoiledRotations(t *testing.T) {
	d := probe.Dice(1204)
	met := map[api.Errno]int{}
	for range 1500 {
		g := d.Graph(1+d.Below(9), 10+d.Below(91))
		r := d.Rotation(g)
		numbers := append(probe.Rising(2*len(g.Edges)), -1, -2, 2*len(g.Edges), 2*len(g.Edges)+1, math.MinInt, math.MaxInt)
		for range 8 {
			lists := spoiled(&d, r, numbers)
			_, want := rot.Check(g, lists)
			met[want]++
			if want == api.OK {
				agrees(t, g, lists)
			} else {
				refused(t, g, lists, want)
			}
		}
	}
	for _, code := range []api.Errno{api.OK, api.ErrRotLength, api.ErrRotHalf, api.ErrRotTwice, api.ErrRotMissing} {
		if met[code] < 200 {
			t.Errorf("the test itself: errors %v", met)
		}
	}
}

// TestAllLists: of the smallest graphs, with every list of a few numbers at each vertex.
func TestAllLists(t *testing.T) {
	for _, c := range []struct {
		g       api.Graph
		lengths []int
	}{
		{probe.With(1), []int{2}},
		{probe.With(2), []int{1, 1}},
		{probe.Path(2), []int{2, 2}},
		{probe.Path(3), []int{1, 3, 2}},
		{probe.Cycle(3), []int{2, 2, 2}},
		{probe.With(3, api.Edge{U: 0, V: 2}), []int{2, 2, 2}},
	} {
		var lists [][][]int
		for _, most := range c.lengths {
			lists = append(lists, probe.Lists(append([]int{-1, 2 * len(c.g.Edges)}, probe.Rising(2*len(c.g.Edges))...), most))
		}
		good := 0
		for r := range probe.Choices(lists) {
			if _, want := rot.Check(c.g, r); want != api.OK {
				refused(t, c.g, r, want)
				continue
			}
			agrees(t, c.g, r)
			good++
		}
		if good == 0 {
			t.Errorf("the test itself: no rotation of %v", c.g)
		}
	}
}
