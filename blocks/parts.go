package blocks

import (
	"slices"

	"tangram/api"
	"tangram/csr"
	"tangram/dfs"
)

// none: the Parent of a root.
const none = -1

// parts is a graph fallen into its blocks.
type parts struct {
	adj    *csr.Adj
	found  map[int][]int // by a block's least edge, its edges
	leasts []int         // by block, its least edge
	of     []int         // by edge, its block
}

func part(g api.Graph) (*parts, api.Errno) {
	adj, code := csr.New(g)
	if code != api.OK {
		return nil, code
	}
	forest, _ := dfs.Walk(g) // csr.New has found g valid
	f := &finder{adj: adj, forest: forest, found: map[int][]int{}}
	f.find()
	p := &parts{adj: adj, found: f.found, leasts: sortedKeys(f.found)}
	p.of = p.numbers()
	return p, api.OK
}

// sortedKeys: a map is gone through in no order that may be told.
func sortedKeys(found map[int][]int) []int {
	keys := make([]int, 0, len(found))
	for key := range found {
		keys = append(keys, key)
	}
	slices.Sort(keys)
	return keys
}

func (p *parts) count() int { return len(p.leasts) }

func (p *parts) numbers() []int {
	of := make([]int, p.adj.M())
	for k, least := range p.leasts {
		for _, e := range p.found[least] {
			of[e] = k
		}
	}
	return of
}

func (p *parts) cuts() []int {
	var list []int
	for v := range p.adj.N() {
		if p.isCut(v) {
			list = append(list, v)
		}
	}
	return list
}

// isCut: is an edge of v in another block than its first one?
func (p *parts) isCut(v int) bool {
	first := p.adj.First(v)
	for h := range p.adj.Out(v) {
		if p.of[h/2] != p.of[first/2] {
			return true
		}
	}
	return false
}

// bridges: a block of one edge has that edge as its least one.
func (p *parts) bridges() []int {
	var list []int
	for _, least := range p.leasts {
		if len(p.found[least]) == 1 {
			list = append(list, least)
		}
	}
	return list
}

// vertices: those that are in the block, rising.
func (p *parts) vertices(k int) []int {
	var list []int
	for v := range p.adj.N() {
		if p.isIn(v, k) {
			list = append(list, v)
		}
	}
	return list
}

func (p *parts) isIn(v, k int) bool {
	for h := range p.adj.Out(v) {
		if p.of[h/2] == k {
			return true
		}
	}
	return false
}

// graph: a block with its vertices renamed. Their order stays, and so the edges rise as they do in the whole graph.
func (p *parts) graph(k int, vertices []int) api.Graph {
	name := make([]int, p.adj.N())
	for i, v := range vertices {
		name[v] = i
	}
	numbers := slices.Sorted(slices.Values(p.found[p.leasts[k]]))
	edges := make([]api.Edge, len(numbers))
	for i, e := range numbers {
		edges[i] = api.Edge{U: name[p.adj.From(2*e)], V: name[p.adj.To(2*e)]}
	}
	return api.Graph{N: len(vertices), Edges: edges}
}
