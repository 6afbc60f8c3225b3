package kura_test

import (
	"slices"
	"testing"

	"tangram/api"
	"tangram/kura"
	"tangram/probe"
)

// answer: what Recognise says.
type answer struct {
	k    api.Kura
	is   bool
	code api.Errno
}

func ask(g api.Graph) answer {
	k, is, code := kura.Recognise(g)
	return answer{k, is, code}
}

func same(a, b answer) bool {
	return a.is == b.is && a.code == b.code && a.k.Kind == b.k.Kind && slices.Equal(a.k.Branch, b.k.Branch) && probe.SameLists(a.k.Paths, b.k.Paths)
}

func (a answer) shown() answer {
	a.k.Paths = fewLists(a.k.Paths)
	return a
}

func fewLists(lists [][]int) [][]int {
	var few [][]int
	for _, list := range lists[:min(20, len(lists))] {
		few = append(few, list[:min(20, len(list))])
	}
	return few
}

// recognises: Recognise answers just this.
func recognises(t *testing.T, g api.Graph, k api.Kura) {
	t.Helper()
	if got, want := ask(g), (answer{k: k, is: true}); !same(got, want) {
		t.Fatalf("P15.2: Recognise(%v): %v, want %v", probe.Shown(g), got.shown(), want.shown())
	}
}

// refuses: R3: it is none, and nothing else is told.
func refuses(t *testing.T, what string, g api.Graph) {
	t.Helper()
	if got := ask(g); !same(got, answer{}) {
		t.Fatalf("P15.3: %s: Recognise(%v): %v, want false and nothing", what, probe.Shown(g), got.shown())
	}
}

func chains(t *testing.T, g api.Graph) [][]int {
	t.Helper()
	list, code := kura.Chains(g)
	if code != api.OK {
		t.Fatalf("P15.1: Chains(%v): %d", probe.Shown(g), code)
	}
	return list
}

// chained: Chains answers just these.
func chained(t *testing.T, g api.Graph, want ...[]int) {
	t.Helper()
	if got := chains(t, g); !probe.SameLists(got, want) {
		t.Fatalf("P15.1: Chains(%v): %v, want %v", probe.Shown(g), fewLists(got), fewLists(want))
	}
}

func k5() api.Graph { return probe.Complete(5) }

func k33() api.Graph { return probe.TwoPart(3, 3) }

// prism: two triangles, joined three times.
func prism() api.Graph { return probe.OfEnds(6, 0, 1, 0, 2, 0, 3, 1, 2, 1, 4, 2, 5, 3, 4, 3, 5, 4, 5) }

func TestExamplesOfRecognise(t *testing.T) {
	recognises(t, k5(), api.Kura{Kind: api.K5, Branch: []int{0, 1, 2, 3, 4}, Paths: [][]int{
		{0, 1}, {0, 2}, {0, 3}, {0, 4}, {1, 2}, {1, 3}, {1, 4}, {2, 3}, {2, 4}, {3, 4},
	}})
	recognises(t, probe.OfEnds(8, 0, 4, 0, 5, 0, 6, 1, 3, 1, 4, 1, 5, 2, 3, 2, 4, 2, 5, 3, 6), api.Kura{Kind: api.K33, Branch: []int{0, 1, 2, 3, 4, 5}, Paths: [][]int{
		{0, 6, 3}, {0, 4}, {0, 5}, {1, 3}, {1, 4}, {1, 5}, {2, 3}, {2, 4}, {2, 5},
	}})
	recognises(t, probe.OfEnds(6, 0, 1, 0, 3, 0, 5, 1, 2, 1, 4, 2, 3, 2, 5, 3, 4, 4, 5), api.Kura{Kind: api.K33, Branch: []int{0, 2, 4, 1, 3, 5}, Paths: [][]int{
		{0, 1}, {0, 3}, {0, 5}, {2, 1}, {2, 3}, {2, 5}, {4, 1}, {4, 3}, {4, 5},
	}})
	refuses(t, "K5 and a triangle", probe.Beside(k5(), probe.Cycle(3)))
	refuses(t, "K5 with a pendant vertex", probe.Hung(k5(), 0, probe.Path(2), 0))
	refuses(t, "K6", probe.Complete(6))
	refuses(t, "K4", probe.Complete(4))
	refuses(t, "no edges", probe.With(3))
	refuses(t, "the prism", prism())
}

func TestExampleOfChains(t *testing.T) {
	chained(t, probe.OfEnds(7, 0, 1, 0, 2, 1, 2, 2, 3, 4, 5, 4, 6, 5, 6), []int{2, 0, 1, 2}, []int{2, 3}, []int{4, 5, 6, 4})
}

func TestOpenChains(t *testing.T) {
	chained(t, probe.OfEnds(2, 0, 1), []int{0, 1})
	chained(t, probe.OfEnds(9, 3, 7), []int{3, 7})
	chained(t, probe.Path(5), []int{0, 1, 2, 3, 4})
	chained(t, probe.OfEnds(4, 0, 1, 0, 2, 1, 3), []int{2, 0, 1, 3})
	chained(t, probe.OfEnds(4, 0, 1, 0, 3, 1, 2), []int{2, 1, 0, 3})
	chained(t, probe.OfEnds(6, 0, 4, 0, 5, 1, 3, 1, 5, 2, 3), []int{2, 3, 1, 5, 0, 4})
	chained(t, probe.Star(4, 0), []int{0, 1}, []int{0, 2}, []int{0, 3})
	chained(t, probe.Star(4, 3), []int{0, 3}, []int{1, 3}, []int{2, 3})
	chained(t, probe.Star(3, 2), []int{0, 2, 1})
	// three ways between two, the middle one a lone edge
	chained(t, probe.OfEnds(5, 0, 2, 0, 3, 1, 2, 1, 4, 2, 3, 3, 4), []int{2, 0, 3}, []int{2, 1, 4, 3}, []int{2, 3})
	// and in another order than their ends would have it
	chained(t, probe.OfEnds(6, 0, 4, 0, 5, 1, 2, 1, 4, 1, 5, 3, 4), []int{1, 5, 0, 4}, []int{1, 2}, []int{1, 4}, []int{3, 4})
}

func TestChainsClosedAtAVertex(t *testing.T) {
	chained(t, probe.OfEnds(4, 0, 1, 0, 2, 0, 3, 1, 2), []int{0, 1, 2, 0}, []int{0, 3})
	chained(t, probe.OfEnds(4, 0, 3, 1, 2, 1, 3, 2, 3), []int{0, 3}, []int{3, 1, 2, 3})
	// the least edge of it lies within, and leads the other way round
	chained(t, probe.OfEnds(6, 0, 1, 0, 3, 1, 4, 2, 3, 2, 4, 4, 5), []int{4, 1, 0, 3, 2, 4}, []int{4, 5})
	chained(t, probe.OfEnds(6, 0, 1, 0, 3, 1, 2, 2, 4, 3, 4, 4, 5), []int{4, 2, 1, 0, 3, 4}, []int{4, 5})
	// both at one vertex of degree 4, mixed
	chained(t, probe.OfEnds(5, 0, 2, 0, 4, 1, 2, 1, 3, 2, 3, 2, 4), []int{2, 0, 4, 2}, []int{2, 1, 3, 2})
	chained(t, probe.OfEnds(6, 0, 1, 0, 2, 1, 2, 2, 3, 3, 4, 3, 5, 4, 5), []int{2, 0, 1, 2}, []int{2, 3}, []int{3, 4, 5, 3})
}

func TestFreeCycles(t *testing.T) {
	chained(t, probe.Cycle(3), []int{0, 1, 2, 0})
	chained(t, probe.Cycle(5), []int{0, 1, 2, 3, 4, 0})
	chained(t, probe.OfEnds(4, 0, 2, 0, 3, 1, 2, 1, 3), []int{0, 2, 1, 3, 0})
	chained(t, probe.OfEnds(7, 1, 4, 1, 6, 2, 4, 2, 5, 5, 6), []int{1, 4, 2, 5, 6, 1})
	chained(t, probe.OfEnds(6, 0, 3, 0, 5, 1, 2, 1, 4, 2, 4, 3, 5), []int{0, 3, 5, 0}, []int{1, 2, 4, 1})
}

func TestNoChains(t *testing.T) {
	for _, n := range []int{0, 1, 3, 50} {
		chained(t, probe.With(n))
		refuses(t, "no edges", probe.With(n))
	}
}

// TestWithIsolatedVertices: they are passed over, wherever they stand.
func TestWithIsolatedVertices(t *testing.T) {
	for ahead := range 4 {
		for behind := range 4 {
			g := probe.Beside(probe.With(ahead), probe.Divided(k33(), 4, 1), probe.With(behind))
			b := func(v int) int { return ahead + v }
			recognises(t, g, api.Kura{Kind: api.K33, Branch: []int{b(0), b(1), b(2), b(3), b(4), b(5)}, Paths: [][]int{
				{b(0), b(3)}, {b(0), b(4)}, {b(0), b(5)}, {b(1), b(3)}, {b(1), b(6), b(4)}, {b(1), b(5)}, {b(2), b(3)}, {b(2), b(4)}, {b(2), b(5)},
			}})
		}
	}
}

// TestPathsFromTheFirstSide: a path goes from the side of the least branch vertex, though that end may be the greater one, and the vertices on it greater or less than all.
func TestPathsFromTheFirstSide(t *testing.T) {
	// 1 8 9 against 3 4 5; 0 and 2 stand between 9 and 4, 6 and 7 between 8 and 3
	g := probe.OfPairs(10, [][2]int{
		{1, 3}, {1, 4}, {1, 5}, {8, 7}, {7, 6}, {6, 3}, {8, 4}, {8, 5}, {9, 3}, {9, 2}, {2, 0}, {0, 4}, {9, 5},
	})
	recognises(t, g, api.Kura{Kind: api.K33, Branch: []int{1, 8, 9, 3, 4, 5}, Paths: [][]int{
		{1, 3}, {1, 4}, {1, 5}, {8, 7, 6, 3}, {8, 4}, {8, 5}, {9, 3}, {9, 2, 0, 4}, {9, 5},
	}})
}

// TestPathsOfK5: branch vertices in the middle of the numbers, paths through lesser and greater ones.
func TestPathsOfK5(t *testing.T) {
	g := probe.OfPairs(9, [][2]int{
		{2, 3}, {2, 8}, {8, 4}, {2, 5}, {2, 6}, {3, 4}, {3, 5}, {3, 1}, {1, 7}, {7, 0}, {0, 6}, {4, 5}, {4, 6}, {5, 6},
	})
	recognises(t, g, api.Kura{Kind: api.K5, Branch: []int{2, 3, 4, 5, 6}, Paths: [][]int{
		{2, 3}, {2, 8, 4}, {2, 5}, {2, 6}, {3, 4}, {3, 5}, {3, 1, 7, 0, 6}, {4, 5}, {4, 6}, {5, 6},
	}})
}

// TestLookAlikes: graphs that have much of a subdivision.
func TestLookAlikes(t *testing.T) {
	for name, g := range map[string]api.Graph{
		"nothing":                                     probe.With(0),
		"one edge":                                    probe.OfEnds(2, 0, 1),
		"a cycle":                                     probe.Cycle(6),
		"a free cycle beside K3,3":                    probe.Beside(k33(), probe.Cycle(4)),
		"a free cycle ahead of K3,3":                  probe.Beside(probe.Cycle(3), k33()),
		"a free cycle ahead of K5":                    probe.Beside(probe.Cycle(3), k5()),
		"an edge beside K5":                           probe.Beside(k5(), probe.Path(2)),
		"an edge beside K3,3":                         probe.Beside(k33(), probe.Path(2)),
		"K3,3 with a pendant vertex":                  probe.Hung(k33(), 2, probe.Path(2), 0),
		"K3,3, a pendant vertex within a path":        probe.Hung(probe.Divided(k33(), 0, 1), 6, probe.Path(2), 0),
		"two K5":                                      probe.Beside(k5(), k5()),
		"two K3,3":                                    probe.Beside(k33(), k33()),
		"K5 beside K3,3":                              probe.Beside(k5(), k33()),
		"K5 hung on K5":                               probe.Hung(k5(), 2, k5(), 0),
		"a triangle hung on K5":                       probe.Hung(k5(), 0, probe.Cycle(3), 0),
		"a triangle hung on a path of K5":             probe.Hung(probe.Divided(k5(), 3, 1), 5, probe.Cycle(3), 0),
		"K5 without an edge":                          probe.Without(k5(), 4),
		"K3,3 without an edge":                        probe.Without(k33(), 4),
		"K3,3 with an edge more":                      probe.Plus(k33(), [2]int{0, 1}),
		"K5 with a path divided, and its ends joined": probe.Plus(probe.Divided(k5(), 2, 1), [2]int{0, 3}),
		"K3,4":                                   probe.TwoPart(3, 4),
		"K4,4":                                   probe.TwoPart(4, 4),
		"Petersen's graph":                       probe.Petersen(),
		"the octahedron":                         probe.Hubs(probe.Cycle(4), 2),
		"the prism, its edges divided":           probe.DividedAll(prism(), 2),
		"K4 beside two vertices with three ways": probe.Beside(probe.Complete(4), probe.TwoPart(3, 2)),
		"five of degree 4, two of them joined twice": probe.OfEnds(7, 0, 2, 0, 3, 0, 4, 0, 5, 1, 2, 1, 3, 1, 4, 1, 6, 2, 4, 2, 5, 3, 4, 3, 6),
		"five of degree 4, each with a closed chain": ringed(5),
		"six of degree 3, one with a closed chain":   probe.OfEnds(9, 0, 3, 0, 4, 0, 5, 1, 3, 1, 4, 1, 5, 2, 3, 2, 4, 2, 6, 6, 7, 6, 8, 7, 8),
	} {
		refuses(t, name, g)
	}
}

// ringed: a cycle of n vertices with a triangle hung on each.
func ringed(n int) api.Graph {
	pairs := probe.Pairs(probe.Cycle(n))
	for v := range n {
		a, b := n+2*v, n+2*v+1
		pairs = append(pairs, [2]int{v, a}, [2]int{a, b}, [2]int{b, v})
	}
	return probe.OfPairs(3*n, pairs)
}

// TestNotValid: R2, R3.
func TestNotValid(t *testing.T) {
	k := k5()
	slices.Reverse(k.Edges)
	for _, g := range append(probe.Invalid(), k, probe.With(4, k5().Edges...), probe.OfEnds(2, 1, 0)) {
		if got := ask(g); !same(got, answer{code: api.ErrGraph}) {
			t.Fatalf("R2: Recognise(%v): %v, want ErrGraph and nothing", probe.Shown(g), got.shown())
		}
		if list, code := kura.Chains(g); code != api.ErrGraph || len(list) != 0 {
			t.Fatalf("R2: Chains(%v): %v, %d, want ErrGraph and nothing", probe.Shown(g), fewLists(list), code)
		}
	}
}
