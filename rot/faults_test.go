package rot_test

import (
	"math"
	"slices"
	"testing"

	"tangram/api"
	"tangram/probe"
)

// wrong is an element that makes a list wrong, wherever it is put behind the first one.
type wrong struct {
	name    string
	code    api.Errno
	element func(g api.Graph, v int, list []int) int
}

func number(name string, x int) wrong {
	return wrong{name, api.ErrRotHalf, func(api.Graph, int, []int) int { return x }}
}

func twice() wrong {
	return wrong{"twice", api.ErrRotTwice, func(_ api.Graph, _ int, list []int) int { return list[0] }}
}

// wrongHalves: each kind of element that may not stand in a rotation.
func wrongHalves(g api.Graph) []wrong {
	return []wrong{
		{"of another vertex", api.ErrRotHalf, func(g api.Graph, v int, _ []int) int {
			for h := range 2 * len(g.Edges) {
				if from, to := probe.Ends(g, h); from != v && to != v {
					return h
				}
			}
			return -1
		}},
		{"a twin", api.ErrRotHalf, func(_ api.Graph, _ int, list []int) int { return list[0] ^ 1 }},
		number("below 0", -1), number("far below 0", math.MinInt),
		number("behind the last", 2*len(g.Edges)), number("far behind the last", math.MaxInt),
		twice(),
	}
}

// wrongVertices: each kind of element that may not stand round a vertex.
func wrongVertices(g api.Graph) []wrong {
	return []wrong{
		{"no neighbour", api.ErrRotHalf, func(g api.Graph, v int, list []int) int {
			for w := range g.N {
				if w != v && !slices.Contains(neighbours(g)[v], w) {
					return w
				}
			}
			return -1
		}},
		{"the vertex itself", api.ErrRotHalf, func(_ api.Graph, v int, _ []int) int { return v }},
		number("below 0", -1), number("far below 0", math.MinInt),
		number("behind the last", g.N), number("far behind the last", math.MaxInt),
		twice(),
	}
}

// teller holds what is said of lists with faults against what the chapter says.
type teller struct {
	g      api.Graph
	lists  [][]int
	wanted [][]int // by vertex, what is to stand in its list
	kinds  []wrong
	told   func(t *testing.T, lists [][]int, v int, want api.Errno)
}

// tellers: by half-edges and by vertices, of graphs that have a vertex of few edges and one of many.
func tellers() []teller {
	d := probe.Dice(1104)
	var all []teller
	for _, g := range []api.Graph{probe.Petersen(), probe.Slanted(3, 3), probe.Beside(probe.With(1), tail(), probe.With(2)), d.Renamed(probe.Wheel(5))} {
		r := d.Rotation(g)
		all = append(all,
			teller{g, r, probe.Leaving(g), wrongHalves(g), func(t *testing.T, lists [][]int, v int, want api.Errno) {
				t.Helper()
				refused(t, g, lists, v, want)
			}},
			teller{g, slowAround(g, r), neighbours(g), wrongVertices(g), func(t *testing.T, lists [][]int, v int, want api.Errno) {
				t.Helper()
				sentBack(t, g, lists, v, want)
			}})
	}
	return all
}

// with: the lists, with another one at v.
func (x teller) with(v int, list []int) [][]int {
	lists := probe.CopyLists(x.lists)
	lists[v] = list
	return lists
}

// put: the list with a wrong element at that place.
func (x teller) put(k wrong, v int, list []int, at int) []int {
	return slices.Insert(slices.Clone(list), at, k.element(x.g, v, x.lists[v]))
}

func without(list []int, at int) []int { return slices.Delete(slices.Clone(list), at, at+1) }

// TestOneFault: each kind of fault at each place of each list; each half-edge and each neighbour missing.
func TestOneFault(t *testing.T) {
	for _, x := range tellers() {
		for v, list := range x.lists {
			for i := range list {
				for _, k := range x.kinds {
					x.told(t, x.with(v, x.put(k, v, list, i+1)), v, k.code)
				}
				x.told(t, x.with(v, without(list, i)), v, api.ErrRotMissing)
			}
			if len(list) > 0 {
				x.told(t, x.with(v, nil), v, api.ErrRotMissing)
				x.told(t, x.with(v, []int{}), v, api.ErrRotMissing)
			}
		}
	}
}

// TestTwoFaultsAtOneVertex: each pair in both orders, at all places: the first is told; what is missing, be it one or many, is told behind both.
func TestTwoFaultsAtOneVertex(t *testing.T) {
	for _, x := range tellers() {
		for v, list := range x.lists {
			x.pairs(t, v, list)
			for i := 1; i < len(list); i++ {
				x.pairs(t, v, without(list, i))
				x.pairs(t, v, list[:i])
			}
		}
	}
}

func (x teller) pairs(t *testing.T, v int, list []int) {
	t.Helper()
	for i := 1; i <= len(list); i++ {
		for _, first := range x.kinds {
			x.told(t, x.with(v, x.put(first, v, list, i)), v, first.code)
			for j := i; j <= len(list); j++ {
				for _, second := range x.kinds {
					x.told(t, x.with(v, x.put(first, v, x.put(second, v, list, j), i)), v, first.code)
				}
			}
		}
	}
}

// faulty: lists of one vertex, each with one fault, by what is wrong.
func (x teller) faulty(v int) map[api.Errno][][]int {
	list := x.lists[v]
	all := map[api.Errno][][]int{}
	if len(list) == 0 {
		all[api.ErrRotHalf] = [][]int{{-1}, {math.MaxInt}}
		return all
	}
	for _, k := range x.kinds {
		all[k.code] = append(all[k.code], x.put(k, v, list, len(list)))
	}
	all[api.ErrRotMissing] = [][]int{without(list, len(list)-1), without(list, 0)}
	return all
}

// TestFaultsAtTwoVertices: the one at the lower vertex is told, with it.
func TestFaultsAtTwoVertices(t *testing.T) {
	for _, x := range tellers() {
		for u := range x.lists {
			for v := u + 1; v < len(x.lists); v++ {
				for want, lists := range x.faulty(u) {
					for _, first := range lists {
						for _, others := range x.faulty(v) {
							for _, second := range others {
								both := x.with(u, first)
								both[v] = second
								x.told(t, both, u, want)
							}
						}
					}
				}
			}
		}
	}
}

// TestListsOfOtherVertices: a rotation whose lists stand at other vertices, or several at one.
func TestListsOfOtherVertices(t *testing.T) {
	for _, x := range tellers() {
		for u, list := range x.lists {
			for v := range x.lists {
				if u == v || len(list) == 0 {
					continue
				}
				changed := x.with(v, list)
				changed[u] = x.lists[v]
				if at, want := slowFault(x.wanted, changed); want != api.OK {
					x.told(t, changed, at, want)
				}
			}
		}
	}
	g := probe.Path(3)
	refused(t, g, api.Rotation{{0, 1, 2, 3}, nil, nil}, 0, api.ErrRotHalf)
	refused(t, g, api.Rotation{{0}, {1, 2, 3}, nil}, 1, api.ErrRotHalf)
	refused(t, g, api.Rotation{{0}, {1, 2}, {3, 0}}, 2, api.ErrRotHalf)
	refused(t, g, api.Rotation{{0}, {1, 2, 1}, {3, 0}}, 1, api.ErrRotTwice)
	sentBack(t, g, [][]int{{1, 2}, {0, 2}, {1}}, 0, api.ErrRotHalf)
	sentBack(t, g, [][]int{{1, 1}, {0, 2}, {1}}, 0, api.ErrRotTwice)
	sentBack(t, g, [][]int{{1}, {2}, {0}}, 1, api.ErrRotMissing)
}
