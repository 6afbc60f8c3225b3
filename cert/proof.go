package cert

import "tangram/api"

// greatest is the greatest number of MaxDigits digits.
const greatest = 999999999

// proof is what a certificate is: rounds of a planar graph, a part of any other one.
type proof interface {
	fits() bool // has the form room for it, but for its length?
}

// rounds are, by vertex, the vertices round it.
type rounds [][]int

// part has the edges of a subdivision.
type part []api.Edge

// proofOf: the certificate's proof; false, if it has things of the other kind beside.
func proofOf(c api.Cert) (proof, bool) {
	if c.Planar {
		return rounds(c.Around), len(c.Edges) == 0
	}
	return part(c.Edges), len(c.Around) == 0
}

// certOf: the certificate that has this proof.
func certOf(p proof) api.Cert {
	var c api.Cert
	switch p := p.(type) {
	case rounds:
		c.Planar, c.Around = true, p
	case part:
		c.Edges = p
	}
	return c
}

func (p rounds) fits() bool {
	if len(p) > api.MaxN {
		return false
	}
	for _, list := range p {
		for _, n := range list {
			if n < list[0] || !digits(n) {
				return false
			}
		}
	}
	return true
}

func (p part) fits() bool {
	if len(p) > api.MaxEdges {
		return false
	}
	var last api.Edge
	for _, e := range p {
		if !digits(e.U) || !digits(e.V) || e.U >= e.V || !above(e, last) {
			return false
		}
		last = e
	}
	return true
}

// digits: can it be written with digits alone, and no more than may be?
func digits(n int) bool { return 0 <= n && n <= greatest }

// above: does the edge stand behind the other one, by U, then by V? Every edge stands behind {0 0}.
func above(e, other api.Edge) bool {
	return e.U > other.U || e.U == other.U && e.V > other.V
}
