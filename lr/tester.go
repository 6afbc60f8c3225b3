package lr

import (
	"slices"

	"tangram/api"
)

// visit is a vertex on the way that one has come.
type visit struct {
	vertex int
	next   int  // which of the edges that are walked from it comes next
	bottom pair // what lay on top of the conflict pairs ahead of the edge that is being gone by
}

// tester goes through the edges once more, those of each vertex by their nesting depth. When an edge has been gone by, the return edges of the edges gone by at its vertex lie on top of the stack, in conflict pairs that hold all that is known of their sides; none of a pair leads higher than one of the pair above it.
type tester struct {
	*walked
	sides
	pairs  []pair
	way    []visit
	lowest []int // by edge that has been gone by and has a return edge: a return edge that leads to its Low
}

func newTester(w *walked) *tester {
	count := len(w.forest.Orient)
	return &tester{walked: w, sides: newSides(count), lowest: slices.Repeat([]int{none}, count)}
}

// test: false, if some constraint can't be kept.
func (t *tester) test() bool {
	for _, v := range t.forest.Order {
		if t.forest.Parent[v] == none && !t.testTree(v) {
			return false
		}
	}
	return true
}

func (t *tester) testTree(root int) bool {
	t.enter(root)
	for len(t.way) > 0 {
		here := &t.way[len(t.way)-1]
		if here.next == len(t.low.Out[here.vertex]) {
			if !t.leave() {
				return false
			}
			continue
		}
		h := t.low.Out[here.vertex][here.next]
		here.next++
		here.bottom = t.top()
		if !t.goBy(h) {
			return false
		}
	}
	return true
}

func (t *tester) enter(v int) { t.way = append(t.way, visit{vertex: v, bottom: noPair()}) }

// goBy: what comes out of a tree edge is known when the vertex that it reaches is left.
func (t *tester) goBy(h int) bool {
	if !t.back(h) {
		t.enter(t.to(h))
		return true
	}
	e := h / 2
	t.lowest[e] = e
	t.push(pair{left: noInterval(), right: interval{high: e, low: e}})
	return t.settle(h)
}

// leave goes back by the tree edge that has reached the last vertex on the way.
func (t *tester) leave() bool {
	last := len(t.way) - 1
	h := t.forest.Parent[t.way[last].vertex]
	t.way = t.way[:last]
	if h == none {
		return true
	}
	t.trim(t.begins(h))
	return t.settle(h)
}

// settle holds the return edges of an edge against those of the edges ahead of it at its vertex. The first of these has the least Low: so what leads there leads to the Low of the tree edge above.
func (t *tester) settle(h int) bool {
	if !t.returns(h) {
		return true
	}
	v := t.from(h)
	above := t.forest.Parent[v] / 2 // there is one: from a root nothing leads back
	if t.low.Out[v][0] == h {
		t.lowest[above] = t.lowest[h/2]
		return true
	}
	return t.constrain(h/2, above)
}

func (t *tester) top() pair {
	if len(t.pairs) == 0 {
		return noPair()
	}
	return t.pairs[len(t.pairs)-1]
}

func (t *tester) push(p pair) { t.pairs = append(t.pairs, p) }

func (t *tester) pop() { t.pairs = t.pairs[:len(t.pairs)-1] }

// partition: when all constraints are known.
func (t *tester) partition() api.Partition {
	p := make(api.Partition, len(t.forest.Orient))
	for e, h := range t.forest.Orient {
		if t.back(h) {
			p[e] = t.side(e)
		}
	}
	return p
}
