package rot_test

import (
	"math"
	"slices"
	"testing"

	"tangram/api"
	"tangram/probe"
	"tangram/rot"
)

// The chapter's words over again, for valid graphs: each element is sought among all that it may be, and among those ahead of it.

// slowFault: what is wrong first with lists whose elements are to be those of wanted, at each vertex, each once.
func slowFault(wanted, lists [][]int) (int, api.Errno) {
	if len(lists) != len(wanted) {
		return 0, api.ErrRotLength
	}
	for v, list := range lists {
		for i, x := range list {
			if !slices.Contains(wanted[v], x) {
				return v, api.ErrRotHalf
			}
			if slices.Contains(list[:i], x) {
				return v, api.ErrRotTwice
			}
		}
		for _, x := range wanted[v] {
			if !slices.Contains(list, x) {
				return v, api.ErrRotMissing
			}
		}
	}
	return 0, api.OK
}

// neighbours: by vertex.
func neighbours(g api.Graph) [][]int {
	list := make([][]int, g.N)
	for _, e := range g.Edges {
		list[e.U] = append(list[e.U], e.V)
		list[e.V] = append(list[e.V], e.U)
	}
	return list
}

// slowNext: each half-edge is sought in all lists.
func slowNext(g api.Graph, r api.Rotation) []int {
	var next []int
	for h := range 2 * len(g.Edges) {
		for _, list := range r {
			switch i := slices.Index(list, h); {
			case i == -1:
			case i == len(list)-1:
				next = append(next, list[0])
			default:
				next = append(next, list[i+1])
			}
		}
	}
	return next
}

func slowAround(g api.Graph, r api.Rotation) [][]int {
	var around [][]int
	for _, list := range r {
		var names []int
		for _, h := range list {
			_, to := probe.Ends(g, h)
			names = append(names, to)
		}
		around = append(around, names)
	}
	return around
}

// slowFrom: each half-edge that there is is asked whether it leads from the vertex to the other.
func slowFrom(g api.Graph, around [][]int) api.Rotation {
	var r api.Rotation
	for v, list := range around {
		var halves []int
		for _, w := range list {
			for h := range 2 * len(g.Edges) {
				if from, to := probe.Ends(g, h); from == v && to == w {
					halves = append(halves, h)
				}
			}
		}
		r = append(r, halves)
	}
	return r
}

// words: a graph with what may stand round each vertex.
type words struct {
	g                 api.Graph
	leaving, adjacent [][]int
}

func slowly(g api.Graph) words { return words{g, probe.Leaving(g), neighbours(g)} }

// halvesAgree: Check, Next and Around of the lists are what the chapter says; whether they are a rotation.
func (x words) halvesAgree(t *testing.T, r api.Rotation) api.Errno {
	t.Helper()
	v, want := slowFault(x.leaving, r)
	if want != api.OK {
		refused(t, x.g, r, v, want)
		return want
	}
	next, around := accepted(t, x.g, r)
	if !slices.Equal(next, slowNext(x.g, r)) {
		t.Fatalf("P11.1: Next(%v, %v): %v, want %v", x.g, r, next, slowNext(x.g, r))
	}
	if !probe.SameLists(around, slowAround(x.g, r)) {
		t.Fatalf("P11.1: Around(%v, %v): %v, want %v", x.g, r, around, slowAround(x.g, r))
	}
	return api.OK
}

// verticesAgree: From of the lists is what the chapter says.
func (x words) verticesAgree(t *testing.T, around [][]int) api.Errno {
	t.Helper()
	v, want := slowFault(x.adjacent, around)
	if want != api.OK {
		sentBack(t, x.g, around, v, want)
		return want
	}
	if r := taken(t, x.g, around); !probe.SameLists(r, slowFrom(x.g, around)) {
		t.Fatalf("P11.1: From(%v, %v): %v, want %v", x.g, around, r, slowFrom(x.g, around))
	}
	return api.OK
}

// rotationAgrees: all calls of a rotation, and From of what stands round its vertices.
func (x words) rotationAgrees(t *testing.T, r api.Rotation) {
	t.Helper()
	around := slowAround(x.g, r)
	if x.halvesAgree(t, r) != api.OK || x.verticesAgree(t, around) != api.OK {
		t.Fatalf("the test itself: %v is no rotation of %v", r, x.g)
	}
	if back, _, _ := rot.From(x.g, around); !probe.SameLists(back, r) {
		t.Fatalf("P11.4: From of Around of %v: %v", r, back)
	}
}

// TestAllRotations: of all graphs of up to four vertices, wherever lists begin; of those of five the canonical ones, and turned.
func TestAllRotations(t *testing.T) {
	for n := range 5 {
		for _, g := range probe.Graphs(n) {
			x := slowly(g)
			for r := range probe.TurnedRotations(g) {
				x.rotationAgrees(t, r)
			}
		}
	}
	d := probe.Dice(1101)
	for _, g := range probe.Graphs(5) {
		x := slowly(g)
		for r := range probe.Rotations(g) {
			x.rotationAgrees(t, d.Turned(r))
		}
	}
}

func TestRotationsOfOrdinaryGraphs(t *testing.T) {
	d := probe.Dice(1102)
	for _, g := range ordinary() {
		x := slowly(g)
		for range 10 {
			r := d.Rotation(g)
			for _, same := range []api.Rotation{r, rot.Canon(r), rot.Mirror(r), d.Turned(r)} {
				x.rotationAgrees(t, same)
			}
		}
	}
}

// tally counts answers by their errors.
type tally map[api.Errno]int

// each: every answer has been met so often.
func (c tally) each(t *testing.T, least int, codes ...api.Errno) {
	t.Helper()
	for _, code := range codes {
		if c[code] < least {
			t.Errorf("the test itself: %v: the error %d is met %d times", c, code, c[code])
		}
	}
}

// allOf: by place the lists that may stand there.
func allOf(items []int, lengths ...int) [][][]int {
	var lists [][][]int
	for _, most := range lengths {
		lists = append(lists, probe.Lists(items, most))
	}
	return lists
}

// TestAllLists: of the smallest graphs, with every list of a few numbers at each vertex: all rotations are among them, and all faults in all orders.
func TestAllLists(t *testing.T) {
	for _, c := range []struct {
		g       api.Graph
		lengths []int
	}{
		{probe.With(1), []int{3}},
		{probe.With(2), []int{2, 2}},
		{probe.Path(2), []int{3, 3}},
		{probe.Path(3), []int{1, 3, 2}},
		{probe.Star(3, 0), []int{3, 2, 1}},
		{probe.Cycle(3), []int{2, 2, 2}},
		{probe.With(3, api.Edge{U: 0, V: 2}), []int{2, 2, 2}},
	} {
		x := slowly(c.g)
		halves := []int{-1, 2 * len(c.g.Edges)}
		vertices := append(probe.Rising(c.g.N), -1, c.g.N)
		forHalves, forVertices := tally{}, tally{}
		for lists := range probe.Choices(allOf(append(halves, probe.Rising(2*len(c.g.Edges))...), c.lengths...)) {
			forHalves[x.halvesAgree(t, lists)]++
		}
		for lists := range probe.Choices(allOf(vertices, c.lengths...)) {
			forVertices[x.verticesAgree(t, lists)]++
		}
		for _, counted := range []tally{forHalves, forVertices} {
			counted.each(t, 1, api.OK, api.ErrRotHalf)
			if len(c.g.Edges) > 0 {
				counted.each(t, 1, api.ErrRotTwice, api.ErrRotMissing)
			}
		}
	}
}

// spoiled: the lists with a number or two changed, put in or taken out, or lists changed about.
func spoiled(d *probe.Dice, lists [][]int, numbers []int) [][]int {
	lists = probe.CopyLists(lists)
	for range 1 + d.Below(3) {
		v := d.Below(len(lists))
		list := lists[v]
		at := d.Below(len(list) + 1)
		x := numbers[d.Below(len(numbers))]
		switch {
		case d.Below(12) == 0:
			w := d.Below(len(lists))
			lists[v], lists[w] = lists[w], lists[v]
		case at == len(list) || d.Below(3) == 0:
			if len(list) > 0 && d.Below(2) == 0 {
				x = list[d.Below(len(list))]
			}
			lists[v] = slices.Insert(list, at, x)
		case d.Below(2) == 0:
			lists[v] = slices.Delete(list, at, at+1)
		default:
			list[at] = x
		}
	}
	return lists
}

// TestSpoiledRotations: thrown graphs and rotations, and thrown faults of them.
func TestSpoiledRotations(t *testing.T) {
	d := probe.Dice(1103)
	forHalves, forVertices := tally{}, tally{}
	for range 3000 {
		g := d.Graph(1+d.Below(9), 10+d.Below(91))
		x := slowly(g)
		r := d.Rotation(g)
		around := slowAround(g, r)
		halves := append(probe.Rising(2*len(g.Edges)), -1, -2, 2*len(g.Edges), 2*len(g.Edges)+1, math.MinInt, math.MaxInt)
		vertices := append(probe.Rising(g.N), -1, g.N, math.MinInt, math.MaxInt)
		for range 8 {
			forHalves[x.halvesAgree(t, spoiled(&d, r, halves))]++
			forVertices[x.verticesAgree(t, spoiled(&d, around, vertices))]++
		}
	}
	forHalves.each(t, 500, api.OK, api.ErrRotHalf, api.ErrRotTwice, api.ErrRotMissing)
	forVertices.each(t, 500, api.OK, api.ErrRotHalf, api.ErrRotTwice, api.ErrRotMissing)
}
