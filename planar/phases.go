package planar

import (
	"tangram/api"
	"tangram/embed"
	"tangram/extract"
	"tangram/rot"
	"tangram/simple"
)

// phase is a part of the way from bytes to a certificate.
type phase int

const (
	reading   phase = iota + 1 // bytes as a graph
	embedding                  // a graph as a flat rotation
	reducing                   // a graph without one as a smallest part
)

// course is one going of that way: what it begins with, and what the phases hand on.
type course struct {
	bytes []byte
	graph api.Graph
}

// from goes by the phases, from the first one that is asked for, till one of them has an answer.
func (c *course) from(first phase) (api.Result, api.Errno) {
	var found api.Result
	switch first {
	case reading:
		g, reject := simple.Read(c.bytes)
		if reject.Code != api.OK {
			return api.Result{Verdict: api.Rejected, Reject: reject}, api.OK
		}
		c.graph = g
		fallthrough
	case embedding:
		r, planar, code := embed.Embed(c.graph)
		if code != api.OK {
			return api.Result{}, code
		}
		if planar {
			found = c.flat(r)
			break
		}
		fallthrough
	case reducing:
		found = c.least()
	}
	return found, api.OK
}

// flat: the result that this rotation shows.
func (c *course) flat(r api.Rotation) api.Result {
	// A vertex's half-edges rise with the vertices they lead to: so the least one leads to the least neighbour.
	around, _ := rot.Around(c.graph, rot.Canon(r))
	return api.Result{Verdict: api.Planar, Cert: api.Cert{Planar: true, Around: around}}
}

// least: the result that the graph's smallest part shows.
func (c *course) least() api.Result {
	numbers, _ := extract.Minimal(c.graph) // the graph has no flat rotation
	edges := make([]api.Edge, len(numbers))
	for i, e := range numbers {
		edges[i] = c.graph.Edges[e]
	}
	return api.Result{Verdict: api.NonPlanar, Cert: api.Cert{Edges: edges}}
}
