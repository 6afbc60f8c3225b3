package extract

import (
	"slices"
	"sync"

	"tangram/api"
	"tangram/edit"
	"tangram/lr"
)

// search is for the edges that stay. What is left is never planar.
type search struct {
	graph   api.Graph // of the edges that are left; without isolated vertices, which would only be gone over in each test
	numbers []int     // by edge of it, the number that was handed in
}

func newSearch(g api.Graph) *search {
	s := &search{graph: g, numbers: make([]int, len(g.Edges))}
	for e := range s.numbers {
		s.numbers[e] = e
	}
	return s
}

// settle decides of the edges from one place up to another, of which it is known that they can't all go; those ahead have been decided of. It tells up to where edges have then.
//
// A part of a planar graph is planar. So edges in a row all go, each in its turn, just if what is left without all of them isn't planar; and what can't go can't go later either, when there is less.
func (s *search) settle(from, to int) int {
	for to-from > 1 {
		middle := (from + to) / 2
		first, second := s.spareHalves(from, middle, to)
		if first {
			s.drop(from, middle)
			to -= middle - from
			continue
		}
		end := s.settle(from, middle)
		gone := middle - end
		from, to = end, to-gone
		if second && (gone == 0 || s.spare(from, to)) {
			s.drop(from, to)
			return from
		}
	}
	return to
}

// spareHalves: could the one half go, could the other, each while all else is left?
func (s *search) spareHalves(from, middle, to int) (first, second bool) {
	var halves sync.WaitGroup
	halves.Go(func() { first = s.spare(from, middle) })
	halves.Go(func() { second = s.spare(middle, to) })
	halves.Wait()
	return first, second
}

// spare: could these edges go?
func (s *search) spare(from, to int) bool { return tangled(s.without(from, to)) }

func (s *search) drop(from, to int) {
	s.graph = s.without(from, to)
	s.numbers = slices.Concat(s.numbers[:from], s.numbers[to:])
}

func (s *search) without(from, to int) api.Graph {
	rest := api.Graph{N: s.graph.N, Edges: slices.Concat(s.graph.Edges[:from], s.graph.Edges[to:])}
	part, _, _ := edit.Bare(rest) // a part of a valid graph; its edges keep their order
	return part
}

// tangled: isn't it planar? A graph with too many edges needn't be walked.
func tangled(g api.Graph) bool {
	if g.N >= 3 && len(g.Edges) > 3*g.N-6 {
		return true
	}
	planar, _ := lr.Planar(g)
	return !planar
}
