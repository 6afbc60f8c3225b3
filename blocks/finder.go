package blocks

import (
	"slices"

	"tangram/api"
	"tangram/csr"
)

// held is an edge that has been walked and whose block isn't whole yet.
type held struct {
	edge int
	low  int // the lowest height to which one comes back by it, as far as that has been seen; of a tree edge not above the height where it begins
}

// finder goes the way of a depth-first walk once more. The edges of a block lie side by side on its stack, from the tree edge on by which the walk came into the block, when the walk is done with what lies below that edge.
type finder struct {
	adj    *csr.Adj
	forest api.Forest
	stack  []held
	way    []int         // the places on the stack of the tree edges by which one has come, each begun at the height that is its place here
	found  map[int][]int // by a block's least edge, its edges
}

func (f *finder) find() {
	for _, v := range f.forest.Order {
		f.leave(max(0, f.forest.Height[v]-1))
		f.enter(v)
	}
	f.leave(0)
}

// enter lays the tree edge that reaches v on the stack, and behind it the back edges that are walked from v: what is walked on from v comes to lie above them, so that its blocks are taken off without them.
func (f *finder) enter(v int) {
	if h := f.forest.Parent[v]; h != none {
		f.way = append(f.way, len(f.stack))
		f.stack = append(f.stack, held{edge: h / 2, low: f.forest.Height[v] - 1})
	}
	for h := range f.adj.Out(v) {
		if f.back(h) {
			low := f.forest.Height[f.adj.To(h)]
			f.stack = append(f.stack, held{edge: h / 2, low: low})
			f.lower(low)
		}
	}
}

// back: is a back edge walked by this half-edge?
func (f *finder) back(h int) bool {
	return f.forest.Orient[h/2] == h && f.forest.Parent[f.adj.To(h)] != h
}

// lower tells the last tree edge on the way of a height to which one comes back by it. There is one: no edge leads back from a root.
func (f *finder) lower(low int) {
	last := f.way[len(f.way)-1]
	f.stack[last].low = min(f.stack[last].low, low)
}

// leave goes back to the vertex of that height on the way.
func (f *finder) leave(height int) {
	for len(f.way) > height {
		f.finish()
	}
}

// finish goes back by the last tree edge. If one comes back by it to above where it begins, it is in one block with the tree edge ahead of it; else what lies on the stack from it on is a block.
func (f *finder) finish() {
	begins := len(f.way) - 1
	at := f.way[begins]
	f.way = f.way[:begins]
	if low := f.stack[at].low; low < begins {
		f.lower(low)
		return
	}
	f.gather(f.stack[at:])
	f.stack = f.stack[:at]
}

func (f *finder) gather(whole []held) {
	block := make([]int, len(whole))
	for i, x := range whole {
		block[i] = x.edge
	}
	f.found[slices.Min(block)] = block
}
