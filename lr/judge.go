package lr

import (
	"slices"

	"tangram/api"
)

// judge holds a partition against the two rules.
type judge struct {
	*walked
	partition api.Partition
}

// aligned goes through the vertices from the last one back, so that of all below an edge one side is known on which what leads to its Low is.
func (j *judge) aligned() bool {
	side := slices.Clone(j.partition)
	for _, w := range slices.Backward(j.forest.Order) {
		h := j.forest.Parent[w]
		if h == none || !j.returns(h) {
			continue
		}
		side[h/2] = side[j.low.Out[w][0]/2] // the first one has the least Low
		for _, on := range j.low.Out[w] {
			if j.low.Low[on/2] == j.low.Low[h/2] && side[on/2] != side[h/2] {
				return false
			}
		}
	}
	return true
}

func (j *judge) leftRight() bool {
	into := j.into()
	left, right := j.tops(-1, into), j.tops(1, into)
	for v := range j.low.Out {
		if !j.apart(v, left, right) {
			return false
		}
	}
	return true
}

// apart: does the rule hold of all edges that are walked from v? Return edges of two of them stand against each other just if each of the two has one that is above the Low of the other. Where all of an edge that stand against any are on one side, that is the side of its highest one: so no two whose highest ones are on one side may stand against each other.
func (j *judge) apart(v int, left, right []int) bool {
	out := j.low.Out[v]
	highestLeft, highestRight := none, none
	for i, h := range out {
		e := h / 2
		if len(out) > 1 && min(left[e], right[e]) > j.leastOfOthers(out, i) {
			return false
		}
		// By their nesting depths no edge ahead has a greater Low; one that has the same Low, and a return edge above it, stands ahead only of such as have one above it, too.
		highest := &highestRight
		if left[e] > right[e] {
			highest = &highestLeft
		}
		if *highest > j.low.Low[e] {
			return false
		}
		*highest = max(left[e], right[e])
	}
	return true
}

// leastOfOthers: the least Low of the other edges, where there are two or more; they stand by nesting depth, and so by Low.
func (j *judge) leastOfOthers(out []int, i int) int {
	if i == 0 {
		return j.low.Low[out[1]/2]
	}
	return j.low.Low[out[0]/2]
}

// into: by vertex the half-edges by which back edges are walked to it.
func (j *judge) into() [][]int {
	into := make([][]int, j.graph.N)
	for _, h := range j.forest.Orient {
		if j.back(h) {
			into[j.to(h)] = append(into[j.to(h)], h)
		}
	}
	return into
}

// tops: by edge the greatest height of its return edges on that side; none, if it has none there. On each way down to an edge the last vertex is gone to first: so the first height that an edge is told is the greatest, and edges that have been told theirs are passed over for good.
func (j *judge) tops(side int, into [][]int) []int {
	top := slices.Repeat([]int{none}, len(j.partition))
	up := newSkips(j.graph.N)
	for _, v := range slices.Backward(j.forest.Order) {
		height := j.forest.Height[v]
		for _, h := range into[v] {
			if j.partition[h/2] != side {
				continue
			}
			top[h/2] = height
			for w := up.from(j.from(h)); j.forest.Height[w] > height+1; w = up.from(w) {
				by := j.forest.Parent[w]
				top[by/2] = height
				up[w] = j.from(by)
			}
		}
	}
	return top
}

// skips: by vertex one above it, all tree edges between them being passed over; itself, if the edge that reaches it isn't.
type skips []int

func newSkips(count int) skips {
	s := make(skips, count)
	for v := range s {
		s[v] = v
	}
	return s
}

// from: the first vertex from v up that isn't passed over. The way is made shorter for those who come later.
func (s skips) from(v int) int {
	for s[v] != v {
		s[v] = s[s[v]]
		v = s[v]
	}
	return v
}
