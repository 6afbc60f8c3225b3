package rot

import (
	"tangram/api"
	"tangram/simple"
)

// fault is what a reader gives up with: what is wrong first, and at which vertex.
type fault struct {
	vertex int
	code   api.Errno
}

// caught: the fault with which a reading gives up; the zero fault, if it comes to its end.
func caught(reading func()) (f fault) {
	defer func() {
		switch found := recover().(type) {
		case nil:
		case fault:
			f = found
		default:
			panic(found)
		}
	}()
	reading()
	return fault{}
}

// reader holds lists against a graph, one after the other. At the first fault it gives up by panic.
type reader struct {
	graph   api.Graph
	degrees []int
	stood   []bool // by half-edge: it stood in a list already, and that can only be the list of its own vertex
}

func newReader(g api.Graph, lists int) *reader {
	degrees, code := simple.Degrees(g)
	if code != api.OK {
		panic(fault{code: code})
	}
	if lists != g.N {
		panic(fault{code: api.ErrRotLength})
	}
	return &reader{graph: g, degrees: degrees, stood: make([]bool, 2*len(g.Edges))}
}

// stand: h stands in the list of v.
func (r *reader) stand(v, h int) {
	if !leaves(r.graph, h, v) {
		panic(fault{v, api.ErrRotHalf})
	}
	if r.stood[h] {
		panic(fault{v, api.ErrRotTwice})
	}
	r.stood[h] = true
}

// end: the list of v ends, and so many stand in it. They all leave v, and none stands there twice: so one is missing just if there are too few.
func (r *reader) end(v, count int) {
	if count < r.degrees[v] {
		panic(fault{v, api.ErrRotMissing})
	}
}

// readHalves gives up at the first fault of lists of half-edges.
func readHalves(g api.Graph, lists [][]int) {
	r := newReader(g, len(lists))
	for v, list := range lists {
		for _, h := range list {
			r.stand(v, h)
		}
		r.end(v, len(list))
	}
}

// readVertices: the half-edges that are told by the vertices to which they lead. It gives up at the first fault.
func readVertices(g api.Graph, around [][]int) api.Rotation {
	r := newReader(g, len(around))
	find := newFinder(g)
	rotation := make(api.Rotation, len(around))
	for v, list := range around {
		halves := make([]int, 0, r.degrees[v])
		find.at(v)
		for _, w := range list {
			h := find.to(w)
			r.stand(v, h) // gives up, too, if h leaves another vertex
			halves = append(halves, h)
		}
		r.end(v, len(list))
		rotation[v] = halves
	}
	return rotation
}
