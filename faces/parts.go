package faces

import (
	"tangram/api"
	"tangram/comps"
)

// counts: how many vertices, edges and faces a component has.
type counts struct {
	vertices, edges, faces int
}

func (c counts) genus() int {
	if c.edges == 0 { // an isolated vertex has no face, though there is one round it on the sphere: the halves below wouldn't be whole
		return 0
	}
	return (2 - c.vertices + c.edges - c.faces) / 2
}

// parts: by component its counts.
type parts map[int]counts

// add counts more of a component. What a map holds can't be changed in its place: a copy is put back.
func (p parts) add(component int, more counts) {
	c := p[component]
	c.vertices += more.vertices
	c.edges += more.edges
	c.faces += more.faces
	p[component] = c
}

// partsOf: of a valid graph with these faces. Both ends of an edge are in one component, so are all edges of a face.
func partsOf(g api.Graph, faces [][]int) parts {
	of, count, _ := comps.Of(g)
	p := make(parts, count)
	for _, component := range of {
		p.add(component, counts{vertices: 1})
	}
	for _, e := range g.Edges {
		p.add(of[e.U], counts{edges: 1})
	}
	for _, face := range faces {
		p.add(of[g.Edges[face[0]/2].U], counts{faces: 1})
	}
	return p
}
