package embed

// rings: cyclic lists of half-edges, one a vertex, told by what stands behind and ahead of each of them.
type rings struct {
	next, ahead []int
}

func newRings(count int) rings {
	return rings{next: make([]int, count), ahead: make([]int, count)}
}

// link: b stands directly behind a.
func (r *rings) link(a, b int) {
	r.next[a] = b
	r.ahead[b] = a
}

// close makes a list a ring of its own.
func (r *rings) close(list []int) {
	for i, h := range list {
		r.link(h, list[(i+1)%len(list)])
	}
}

// putBehind: h comes to stand directly behind the half-edge at.
func (r *rings) putBehind(at, h int) {
	r.link(h, r.next[at])
	r.link(at, h)
}

// round: the ring of h, from h on.
func (r *rings) round(h int) []int {
	list := []int{h}
	for k := r.next[h]; k != h; k = r.next[k] {
		list = append(list, k)
	}
	return list
}
