package check

import (
	"tangram/api"
	"tangram/cert"
	"tangram/edit"
	"tangram/faces"
	"tangram/kura"
	"tangram/rot"
	"tangram/simple"
)

// claim is that the certificate shows something of the graph. Beside it stands what a demand has found on its way, for those behind it.
type claim struct {
	graph    api.Graph
	cert     api.Cert
	rotation api.Rotation // what stands round each vertex, as half-edges
	numbers  []int        // the named edges, by their numbers in the graph
}

// demand is what a claim has to meet, and the error if it doesn't.
type demand struct {
	code api.Errno
	met  func(x *claim) bool
}

// demands: in their order; each one may count on those ahead of it being met.
func demands(planar bool) []demand {
	all := []demand{
		{api.ErrGraph, (*claim).isOfGraph},
		{api.ErrBadCert, (*claim).mayBe},
	}
	if planar {
		return append(all,
			demand{api.ErrBadRot, (*claim).saysRotation},
			demand{api.ErrNotFlat, (*claim).isFlat},
		)
	}
	return append(all,
		demand{api.ErrNotIn, (*claim).namesEdges},
		demand{api.ErrNotKura, (*claim).isKura},
	)
}

func (x *claim) isOfGraph() bool { return simple.Valid(x.graph) }

func (x *claim) mayBe() bool {
	_, code := cert.Print(x.cert)
	return code == api.OK
}

func (x *claim) saysRotation() bool {
	r, _, code := rot.From(x.graph, x.cert.Around)
	x.rotation = r
	return code == api.OK
}

func (x *claim) isFlat() bool { return faces.Flat(x.graph, x.rotation) }

func (x *claim) namesEdges() bool {
	numbers, are := numbersOf(x.cert.Edges, x.graph.Edges)
	x.numbers = numbers
	return are
}

// isKura asks of the named edges alone: the graph may have others.
func (x *claim) isKura() bool {
	part, code := edit.Sub(x.graph, x.numbers)
	if code != api.OK {
		return false
	}
	_, is, code := kura.Recognise(part)
	return is && code == api.OK
}

// numbersOf: the places of the named edges among all; false, if one isn't there. Both lists rise: so one going through is enough.
func numbersOf(named, all []api.Edge) ([]int, bool) {
	numbers := make([]int, 0, min(len(named), len(all)))
	for i, e := range all {
		if len(numbers) < len(named) && named[len(numbers)] == e {
			numbers = append(numbers, i)
		}
	}
	return numbers, len(numbers) == len(named)
}
