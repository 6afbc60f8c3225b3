package rot_test

import (
	"math"
	"slices"
	"testing"

	"tangram/api"
	"tangram/probe"
	"tangram/rot"
)

// accepted: all calls take the lists as a rotation of the graph; what Next and Around answer.
func accepted(t *testing.T, g api.Graph, r api.Rotation) (next []int, around [][]int) {
	t.Helper()
	if v, code := rot.Check(g, r); v != 0 || code != api.OK {
		t.Fatalf("P11.1: Check(%v, %v): %d, %d, want OK", probe.Shown(g), r, v, code)
	}
	next, code := rot.Next(g, r)
	if code != api.OK {
		t.Fatalf("P11.1: Next(%v, %v): %d, want OK", probe.Shown(g), r, code)
	}
	around, code = rot.Around(g, r)
	if code != api.OK {
		t.Fatalf("P11.1: Around(%v, %v): %d, want OK", probe.Shown(g), r, code)
	}
	return next, around
}

// refused: all calls that take a rotation answer this error and nothing else; Check tells the vertex beside it.
func refused(t *testing.T, g api.Graph, r api.Rotation, v int, want api.Errno) {
	t.Helper()
	if got, code := rot.Check(g, r); got != v || code != want {
		t.Fatalf("P11.1: Check(%v, %v): %d, %d, want %d, %d", probe.Shown(g), r, got, code, v, want)
	}
	if next, code := rot.Next(g, r); len(next) != 0 || code != want {
		t.Fatalf("P11.1: R3: Next(%v, %v): %v, %d, want %d", probe.Shown(g), r, next, code, want)
	}
	if around, code := rot.Around(g, r); len(around) != 0 || code != want {
		t.Fatalf("P11.1: R3: Around(%v, %v): %v, %d, want %d", probe.Shown(g), r, around, code, want)
	}
}

// taken: From answers a rotation.
func taken(t *testing.T, g api.Graph, around [][]int) api.Rotation {
	t.Helper()
	r, v, code := rot.From(g, around)
	if v != 0 || code != api.OK {
		t.Fatalf("P11.1: From(%v, %v): %d, %d, want OK", probe.Shown(g), around, v, code)
	}
	return r
}

// sentBack: From answers this error with its vertex and nothing else.
func sentBack(t *testing.T, g api.Graph, around [][]int, v int, want api.Errno) {
	t.Helper()
	if r, got, code := rot.From(g, around); len(r) != 0 || got != v || code != want {
		t.Fatalf("P11.1: R3: From(%v, %v): %v, %d, %d, want %d, %d", probe.Shown(g), around, r, got, code, v, want)
	}
}

// bothWays: the rotation r of g has these vertices round each vertex, and this next.
func bothWays(t *testing.T, g api.Graph, r api.Rotation, around [][]int, next ...int) {
	t.Helper()
	gotNext, gotAround := accepted(t, g, r)
	if !slices.Equal(gotNext, next) {
		t.Errorf("P11.1: Next(%v, %v): %v, want %v", g, r, gotNext, next)
	}
	if !probe.SameLists(gotAround, around) {
		t.Errorf("P11.1: Around(%v, %v): %v, want %v", g, r, gotAround, around)
	}
	if got := taken(t, g, around); !probe.SameLists(got, r) {
		t.Errorf("P11.1: From(%v, %v): %v, want %v", g, around, got, r)
	}
}

// tail: the chapter's triangle with a tail.
func tail() api.Graph {
	return probe.With(4, api.Edge{U: 0, V: 1}, api.Edge{U: 0, V: 2}, api.Edge{U: 1, V: 2}, api.Edge{U: 2, V: 3})
}

func TestFirstExample(t *testing.T) {
	r := api.Rotation{{2, 0}, {1, 4}, {5, 6, 3}, {7}}
	bothWays(t, tail(), r, [][]int{{2, 1}, {0, 2}, {1, 3, 0}, {2}}, 2, 4, 0, 5, 1, 6, 3, 7)
	if got := rot.Canon(r); !probe.SameLists(got, [][]int{{0, 2}, {1, 4}, {3, 5, 6}, {7}}) {
		t.Errorf("P11.1: Canon(%v): %v", r, got)
	}
	if got := rot.Mirror(r); !probe.SameLists(got, [][]int{{0, 2}, {1, 4}, {3, 6, 5}, {7}}) {
		t.Errorf("P11.1: Mirror(%v): %v", r, got)
	}
}

func TestSecondExample(t *testing.T) {
	refused(t, tail(), api.Rotation{{0, 2}, {1, 4}, {3, 5}, {7}}, 2, api.ErrRotMissing)
	refused(t, tail(), api.Rotation{{0, 2}, {1, 4}, {3, 5, 5}, {7}}, 2, api.ErrRotTwice)
	refused(t, tail(), api.Rotation{{0, 1}, {1, 4}, {3, 5, 6}, {7}}, 0, api.ErrRotHalf)
	refused(t, tail(), api.Rotation{{0, 2}, {1, 4}, {3, 5, 6}}, 0, api.ErrRotLength)
}

func TestThirdExample(t *testing.T) {
	sentBack(t, tail(), [][]int{{1, 2}, {0, 2}, {0, 1, 4}, {2}}, 2, api.ErrRotHalf)
	for _, c := range []struct {
		a, b api.Rotation
		want bool
	}{
		{api.Rotation{{1, 2, 3}}, api.Rotation{{2, 3, 1}}, true},
		{api.Rotation{{1, 2, 3}}, api.Rotation{{3, 2, 1}}, false},
		{api.Rotation{}, api.Rotation{{}}, false},
	} {
		if got := rot.Same(c.a, c.b); got != c.want {
			t.Errorf("P11.1: Same(%v, %v): %v", c.a, c.b, got)
		}
	}
	if got := rot.Canon(api.Rotation{{5, 3, 4, 3}}); !probe.SameLists(got, [][]int{{3, 4, 3, 5}}) {
		t.Errorf("P11.1: Canon: %v", got)
	}
}

// TestByHand: one rotation of each kind of graph.
func TestByHand(t *testing.T) {
	bothWays(t, probe.Path(3), api.Rotation{{0}, {2, 1}, {3}}, [][]int{{1}, {2, 0}, {1}}, 0, 2, 1, 3)
	bothWays(t, probe.Cycle(4), api.Rotation{{0, 2}, {4, 1}, {6, 5}, {3, 7}}, [][]int{{1, 3}, {2, 0}, {3, 1}, {0, 2}}, 2, 4, 0, 7, 1, 6, 5, 3)
	bothWays(t, probe.Star(4, 0), api.Rotation{{4, 0, 2}, {1}, {3}, {5}}, [][]int{{3, 1, 2}, {0}, {0}, {0}}, 2, 1, 4, 3, 0, 5)
	bothWays(t, probe.Star(4, 2), api.Rotation{{0}, {2}, {3, 1, 4}, {5}}, [][]int{{2}, {2}, {1, 0, 3}, {2}}, 0, 4, 2, 1, 3, 5)
	bothWays(t, probe.Complete(4), api.Rotation{{0, 4, 2}, {8, 1, 6}, {3, 10, 7}, {11, 5, 9}}, [][]int{{1, 3, 2}, {3, 0, 2}, {0, 3, 1}, {2, 0, 1}}, 4, 6, 0, 10, 2, 9, 8, 3, 1, 11, 7, 5)
	bothWays(t, probe.TwoPart(2, 2), api.Rotation{{2, 0}, {6, 4}, {5, 1}, {3, 7}}, [][]int{{3, 2}, {3, 2}, {1, 0}, {0, 1}}, 2, 5, 0, 7, 6, 1, 4, 3)
	bothWays(t, probe.With(5, api.Edge{U: 1, V: 3}), api.Rotation{{}, {0}, {}, {1}, {}}, [][]int{{}, {3}, {}, {1}, {}}, 0, 1)
	bothWays(t, probe.Beside(probe.Path(2), probe.With(1), probe.Cycle(3)), api.Rotation{{0}, {1}, {}, {4, 2}, {6, 3}, {5, 7}}, [][]int{{1}, {0}, {}, {5, 4}, {5, 3}, {3, 4}}, 0, 1, 4, 6, 2, 7, 3, 5)
}

// TestBareGraphs: of no vertices, of one, without edges: there is one rotation, of as many empty lists.
func TestBareGraphs(t *testing.T) {
	for _, n := range []int{0, 1, 2, 3, 40} {
		g := probe.With(n)
		empty := make([][]int, n)
		bothWays(t, g, empty, empty)
		if got := rot.Canon(empty); !probe.SameLists(got, empty) {
			t.Errorf("P11.1: Canon of %d empty lists: %v", n, got)
		}
		if got := rot.Mirror(empty); !probe.SameLists(got, empty) {
			t.Errorf("P11.1: Mirror of %d empty lists: %v", n, got)
		}
		for v := range n {
			for _, x := range []int{0, 1, -1, v, n, math.MinInt, math.MaxInt} {
				lists := probe.CopyLists(empty)
				lists[v] = []int{x}
				refused(t, g, lists, v, api.ErrRotHalf)
				sentBack(t, g, lists, v, api.ErrRotHalf)
			}
		}
	}
}

// ordinary: graphs of the kinds that everybody knows.
func ordinary() []api.Graph {
	all := []api.Graph{
		tail(), probe.With(0), probe.With(1), probe.With(3), probe.With(9, api.Edge{U: 3, V: 7}), probe.Petersen(),
		probe.Beside(probe.Cycle(3), probe.Cycle(3)),
		probe.Beside(probe.Complete(4), probe.With(2), probe.Cycle(5), probe.Path(1), probe.Star(6, 2), probe.Path(4), probe.With(1)),
		probe.Hung(probe.Complete(4), 3, probe.Wheel(5), 2),
	}
	for n := 2; n < 9; n++ {
		all = append(all, probe.Path(n), probe.Complete(n), probe.Star(n, 0), probe.Star(n, n/2), probe.Star(n, n-1))
		for m := 2; m < 6; m++ {
			all = append(all, probe.TwoPart(n, m), probe.Grid(n, m), probe.Slanted(n, m))
		}
		all = append(all, probe.Cycle(n+1), probe.Wheel(n+1))
	}
	return all
}

// TestLengths: too few lists and too many, none and nil: ErrRotLength, whatever stands in them.
func TestLengths(t *testing.T) {
	for _, g := range ordinary() {
		r := api.Rotation(probe.Leaving(g))
		_, around := accepted(t, g, r)
		for count := range g.N {
			refused(t, g, r[:count], 0, api.ErrRotLength)
			refused(t, g, make(api.Rotation, count), 0, api.ErrRotLength)
			sentBack(t, g, around[:count], 0, api.ErrRotLength)
			sentBack(t, g, make([][]int, count), 0, api.ErrRotLength)
		}
		for _, more := range [][][]int{{nil}, {{}}, {{0}}, {{-1}}, {{g.N}}, {nil, nil}, r, make([][]int, 300)} {
			if len(more) == 0 {
				continue
			}
			refused(t, g, slices.Concat(r, more), 0, api.ErrRotLength)
			sentBack(t, g, slices.Concat(around, more), 0, api.ErrRotLength)
		}
		if g.N > 0 {
			for _, none := range [][][]int{nil, {}, make([][]int, 0, 4)} {
				refused(t, g, none, 0, api.ErrRotLength)
				sentBack(t, g, none, 0, api.ErrRotLength)
			}
		}
	}
}

// notAGraph: ErrGraph and nothing else, whatever lists come with it.
func notAGraph(t *testing.T, g api.Graph) {
	t.Helper()
	count := 3
	if g.N >= 0 && g.N < 1000 {
		count = g.N
	}
	good := make([][]int, count)
	for v := range good {
		good[v] = []int{2 * v, 2*v + 1}
	}
	for _, lists := range [][][]int{nil, {}, {{}}, {{0}, {1}}, {{-1}, {math.MaxInt}}, good, make([][]int, count), make([][]int, count+1)} {
		refused(t, g, lists, 0, api.ErrGraph)
		sentBack(t, g, lists, 0, api.ErrGraph)
	}
}

func TestGraphsThatAreNotValid(t *testing.T) {
	for _, g := range probe.Invalid() {
		notAGraph(t, g)
	}
}

// TestGraphsWithOneFault: its edges changed one by one, with a rotation of what it was.
func TestGraphsWithOneFault(t *testing.T) {
	g := probe.Wheel(4)
	r := api.Rotation(probe.Leaving(g))
	_, around := accepted(t, g, r)
	for e := range g.Edges {
		for _, wrong := range []api.Edge{{U: 1, V: 0}, {U: 3, V: 3}, {U: 0, V: 5}, {U: -1, V: 2}, {U: math.MinInt, V: math.MaxInt}} {
			bad := probe.Wheel(4)
			bad.Edges[e] = wrong
			notAGraph(t, bad)
			refused(t, bad, r, 0, api.ErrGraph)
			sentBack(t, bad, around, 0, api.ErrGraph)
		}
	}
}

// TestTheOrderOfErrors: R2: ErrGraph ahead of ErrRotLength, that ahead of what is wrong at a vertex.
func TestTheOrderOfErrors(t *testing.T) {
	good, bad := probe.Complete(4), probe.Complete(4)
	bad.Edges[0], bad.Edges[1] = bad.Edges[1], bad.Edges[0]
	r := api.Rotation(probe.Leaving(good))
	_, around := accepted(t, good, r)
	for _, spoil := range []func(lists [][]int) [][]int{
		func(lists [][]int) [][]int { return lists },
		func(lists [][]int) [][]int { return lists[:3] },
		func(lists [][]int) [][]int { lists[0][0] = -1; return lists[:3] },
		func(lists [][]int) [][]int { lists[0] = nil; return append(lists, nil) },
		func(lists [][]int) [][]int { lists[2][1] = lists[2][0]; return lists },
	} {
		refused(t, bad, spoil(probe.CopyLists(r)), 0, api.ErrGraph)
		sentBack(t, bad, spoil(probe.CopyLists(around)), 0, api.ErrGraph)
		if len(spoil(probe.CopyLists(r))) != 4 {
			refused(t, good, spoil(probe.CopyLists(r)), 0, api.ErrRotLength)
			sentBack(t, good, spoil(probe.CopyLists(around)), 0, api.ErrRotLength)
		}
	}
	refused(t, good, api.Rotation{r[0], r[1], {3, 3, 10}, r[3]}, 2, api.ErrRotTwice)
	sentBack(t, good, [][]int{around[0], around[1], {0, 0, 3}, around[3]}, 2, api.ErrRotTwice)
}
