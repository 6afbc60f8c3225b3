package kura

import (
	"slices"

	"tangram/api"
	"tangram/csr"
)

// branching: the vertices that have edges, but not two, rising.
func branching(a *csr.Adj) []int {
	var list []int
	for v := range a.N() {
		if degree := a.Degree(v); degree != 0 && degree != 2 {
			list = append(list, v)
		}
	}
	return list
}

// haveDegree: have all of them just so many edges?
func haveDegree(a *csr.Adj, list []int, degree int) bool {
	for _, v := range list {
		if a.Degree(v) != degree {
			return false
		}
	}
	return true
}

// web: all chains of a graph.
type web struct {
	chains [][]int
	open   map[[2]int]int // by the ends of open chains, the lesser one first: the place of such a chain
}

func spin(chains [][]int) web {
	w := web{chains: chains, open: make(map[[2]int]int)}
	for i, chain := range chains {
		ends := [2]int{chain[0], chain[len(chain)-1]}
		if ends[0] != ends[1] {
			w.open[ends] = i
		}
	}
	return w
}

// five: the chains as a subdivision of K5 with these branch vertices, which rise.
func (w web) five(branch []int) (api.Kura, bool) {
	var pairs [][2]int
	for i, u := range branch {
		for _, v := range branch[i+1:] {
			pairs = append(pairs, [2]int{u, v})
		}
	}
	return w.kura(api.K5, branch, pairs)
}

// threeAndThree: the chains as a subdivision of K3,3 with these branch vertices, which rise. The other side from the first one's are those that it is joined to: there are no other two sides to try.
func (w web) threeAndThree(branch []int) (api.Kura, bool) {
	var near, far []int
	for _, v := range branch {
		if _, joined := w.open[[2]int{branch[0], v}]; joined {
			far = append(far, v)
		} else {
			near = append(near, v)
		}
	}
	if len(near) != 3 {
		return api.Kura{}, false
	}
	var pairs [][2]int
	for _, u := range near {
		for _, v := range far {
			pairs = append(pairs, [2]int{u, v})
		}
	}
	return w.kura(api.K33, slices.Concat(near, far), pairs)
}

// kura: the chains as paths between these pairs, if there is one for each and none beside them: no free cycle, none closed at a vertex, no second one between the same two.
func (w web) kura(kind api.KuraKind, branch []int, pairs [][2]int) (api.Kura, bool) {
	if len(w.chains) != len(pairs) {
		return api.Kura{}, false
	}
	var paths [][]int
	for _, pair := range pairs {
		i, joined := w.open[[2]int{min(pair[0], pair[1]), max(pair[0], pair[1])}]
		if !joined {
			return api.Kura{}, false
		}
		paths = append(paths, from(pair[0], w.chains[i]))
	}
	return api.Kura{Kind: kind, Branch: branch, Paths: paths}, true
}

// from: an open chain from this end of it to the other; the list itself is turned about.
func from(end int, chain []int) []int {
	if chain[0] != end {
		slices.Reverse(chain)
	}
	return chain
}
