package probe

import (
	"iter"
	"slices"

	"tangram/api"
)

// Partitions: all partitions of a forest of few back edges.
func Partitions(g api.Graph, f api.Forest) iter.Seq[api.Partition] {
	var back []int
	for e := range g.Edges {
		if !IsTree(g, f, e) {
			back = append(back, e)
		}
	}
	return func(yield func(api.Partition) bool) {
		for chosen := range 1 << len(back) {
			p := make(api.Partition, len(g.Edges))
			for i, e := range back {
				p[e] = 1 - 2*(chosen>>i&1)
			}
			if !yield(p) {
				return
			}
		}
	}
}

// Partition: each back edge on a side that is thrown.
func (d *Dice) Partition(g api.Graph, f api.Forest) api.Partition {
	p := make(api.Partition, len(g.Edges))
	for e := range p {
		if !IsTree(g, f, e) {
			p[e] = 1 - 2*d.Below(2)
		}
	}
	return p
}

// FewSidesTurned: the partition with one side turned, or two or three.
func (d *Dice) FewSidesTurned(p api.Partition) api.Partition {
	p = slices.Clone(p)
	for range 1 + d.Below(3) {
		if len(p) > 0 {
			p[d.Below(len(p))] *= -1 // what is 0 stays 0
		}
	}
	return p
}

// SidesTurned: the partition with all sides turned.
func SidesTurned(p api.Partition) api.Partition {
	q := slices.Clone(p)
	for e := range q {
		q[e] *= -1
	}
	return q
}
