package lr

// constrain: above is the tree edge that leads to the vertex from which e is walked. What comes out of e becomes the right interval of one pair, what it is in conflict with the left one.
func (t *tester) constrain(e, above int) bool {
	own, ok := t.mergeOwn(above)
	if !ok {
		return false
	}
	p, ok := t.mergeOthers(e, own)
	if ok && p != noPair() {
		t.push(p)
	}
	return ok
}

// mergeOwn takes the return edges of the edge that has been gone by last from the stack. Those that lead higher than the Low of the tree edge above are one interval. Those that lead just there are put on the side of the one that is known to, so that the partition comes out aligned; they needn't be kept, since whatever is said of that one is said of them.
func (t *tester) mergeOwn(above int) (interval, bool) {
	bottom := t.way[len(t.way)-1].bottom
	own := noInterval()
merging:
	for t.top() != bottom {
		p := t.top()
		t.pop()
		if p.right.empty() {
			p = p.turned()
		}
		if !p.left.empty() {
			return own, false
		}
		if t.low.Low[p.right.low] == t.low.Low[above] {
			t.like[p.right.low] = t.lowest[above]
			continue merging
		}
		own = t.join(own, p.right)
	}
	return own, true
}

// mergeOthers takes the pairs from the stack that have a return edge of another edge that leads higher than the Low of e. The interval of such an edge is on the other side than what comes out of e; so the other interval of its pair is on the side of e, and may not have such an edge, too.
func (t *tester) mergeOthers(e int, own interval) (pair, bool) {
	p := pair{left: noInterval(), right: own}
merging:
	for {
		other := t.top()
		left, right := t.higher(other.left, e), t.higher(other.right, e)
		switch {
		case left && right:
			return p, false
		case right:
			other = other.turned()
		case !left:
			break merging
		}
		t.pop()
		p.left = t.join(p.left, other.left)
		p.right = t.join(p.right, other.right)
	}
	return p, true
}

// higher: has the interval an edge that leads higher than Low of e?
func (t *tester) higher(i interval, e int) bool {
	return !i.empty() && t.low.Low[i.high] > t.low.Low[e]
}

// trim takes those back edges from the stack that lead to the height where a tree edge begins: they are no return edges of it, and no later edge is in conflict with them. The pairs that have no others lie on top; the next one may have some.
func (t *tester) trim(height int) {
	for p := t.top(); p != noPair() && t.least(p) == height; p = t.top() {
		t.pop()
		if !p.left.empty() {
			t.turn[p.left.low] = -1
		}
	}
	if p := t.top(); p != noPair() {
		t.pop()
		p.left = t.cut(p.left, p.right, height)
		p.right = t.cut(p.right, p.left, height)
		t.push(p)
	}
}

// least: the least height to which an edge of the pair leads.
func (t *tester) least(p pair) int {
	switch {
	case p.left.empty():
		return t.low.Low[p.right.low]
	case p.right.empty():
		return t.low.Low[p.left.low]
	}
	return min(t.low.Low[p.left.low], t.low.Low[p.right.low])
}

// cut: the interval without its edges that lead to that height. If none is left, the last of them is told by the other interval of the pair.
func (t *tester) cut(i, other interval, height int) interval {
	if i.empty() {
		return i
	}
	high := i.high
	for high != none && t.low.Low[high] == height {
		high = t.like[high]
	}
	if high != none {
		return interval{high: high, low: i.low}
	}
	t.like[i.low] = other.low
	t.turn[i.low] = -1
	return noInterval()
}
