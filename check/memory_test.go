package check_test

import (
	"bytes"
	"slices"
	"sync"
	"testing"

	"tangram/api"
	"tangram/cert"
	"tangram/check"
	"tangram/probe"
)

// TestNilAndEmpty: R4: lists without elements may be nil or empty; no lists are another thing than one empty list.
func TestNilAndEmpty(t *testing.T) {
	for _, edges := range [][]api.Edge{nil, {}, make([]api.Edge, 0, 4)} {
		for _, around := range [][][]int{nil, {}, make([][]int, 0, 4)} {
			says(t, "R4", api.Graph{N: 0, Edges: edges}, api.Cert{Planar: true, Around: around, Edges: edges}, api.OK)
			says(t, "R4", api.Graph{N: 1, Edges: edges}, api.Cert{Planar: true, Around: around, Edges: edges}, api.ErrBadRot)
			says(t, "R4", api.Graph{N: 0, Edges: edges}, api.Cert{Around: around, Edges: edges}, api.ErrNotKura)
			says(t, "R4", k5(), api.Cert{Around: around, Edges: k5().Edges}, api.OK)
		}
		for _, empty := range [][]int{nil, {}, make([]int, 0, 4)} {
			says(t, "R4", api.Graph{N: 1, Edges: edges}, api.Cert{Planar: true, Around: [][]int{empty}, Edges: edges}, api.OK)
			says(t, "R4", api.Graph{N: 0, Edges: edges}, api.Cert{Planar: true, Around: [][]int{empty}, Edges: edges}, api.ErrBadRot)
			says(t, "R4", api.Graph{N: 1, Edges: edges}, api.Cert{Around: [][]int{empty}, Edges: edges}, api.ErrBadCert)
			says(t, "R4", probe.OfEnds(3, 0, 2), api.Cert{Planar: true, Around: [][]int{{2}, empty, {0}}, Edges: edges}, api.OK)
		}
	}
	if check.Bytes(nil, nil) != api.ErrBadGraph || check.Bytes([]byte("0 0"), nil) != api.ErrBadCert || check.Accepts(nil, nil) {
		t.Error("R4: no bytes are accepted, or refused for another reason")
	}
}

// handed is a graph and a certificate with spare room in all their lists, and these with that room.
type handed struct {
	g            api.Graph
	c            api.Cert
	outer, inner [][]int
	named, edges []api.Edge
}

func handing(g api.Graph, c api.Cert) handed {
	x := handed{g: g, c: c}
	x.g.Edges, x.edges = probe.Roomy(g.Edges, api.Edge{U: -9, V: -9})
	x.c.Edges, x.named = probe.Roomy(c.Edges, api.Edge{U: -9, V: -9})
	var lists [][]int
	for _, list := range c.Around {
		list, whole := probe.Roomy(list, -9)
		lists, x.inner = append(lists, list), append(x.inner, whole)
	}
	x.c.Around, x.outer = probe.Roomy(lists, []int{-9})
	return x
}

func (x handed) same(y handed) bool {
	return probe.SameLists(x.outer, y.outer) && probe.SameLists(x.inner, y.inner) && slices.Equal(x.named, y.named) && slices.Equal(x.edges, y.edges)
}

// pair is a graph with a certificate, and what is to be answered.
type pair struct {
	g    api.Graph
	c    api.Cert
	want api.Errno
}

// many: such as show something, and such as don't, for each reason.
func many(t *testing.T, d *probe.Dice) []pair {
	t.Helper()
	var list []pair
	put := func(g api.Graph, c api.Cert) { list = append(list, pair{g, c, slowly(g, c)}) }
	put(probe.OfEnds(2, 1, 0), part(0, 1))
	put(k4(), round([]int{2, 3, 1}, []int{0, 3, 2}, []int{0, 1, 3}, []int{0, 2, 1}))
	put(k4(), round([]int{1, 2, 3}, []int{0, 2, 3}, []int{0, 1, 3}, []int{0, 1, 2}))
	put(k4(), round([]int{1, 2, 3}))
	put(k4(), part(0, 1, 0, 4))
	put(k4(), part(0, 1, 0, 2))
	for range 60 {
		g := thrownGraph(d)
		c := found(t, g)
		put(g, c)
		put(g, spoiled(d, c))
		put(g, ofRotation(g, d.Rotation(g)))
	}
	return list
}

// TestNothingIsChanged: R5: with all spare room; where something is refused, too.
func TestNothingIsChanged(t *testing.T) {
	d := probe.Dice(1809)
	for _, x := range many(t, &d) {
		h, before := handing(x.g, x.c), handing(x.g, x.c)
		says(t, "R5", h.g, h.c, x.want)
		if !h.same(before) {
			t.Fatalf("R5: handed in was %+v, it is now %+v", before, h)
		}
	}
}

// TestBytesUnchanged: R5: with the room behind them.
func TestBytesUnchanged(t *testing.T) {
	d := probe.Dice(1810)
	for _, x := range many(t, &d) {
		c, _ := cert.Print(x.c)
		graph, said := []byte(textOf(&d, x.g)), []byte(c)
		rooms := [2][]byte{append(graph, " 1\n2"...), append(said, "\n2 3"...)}
		before := [2][]byte{bytes.Clone(rooms[0]), bytes.Clone(rooms[1])}
		check.Bytes(rooms[0][:len(graph)], rooms[1][:len(said)])
		check.Accepts(rooms[0][:len(graph)], rooms[1][:len(said)])
		if !bytes.Equal(rooms[0], before[0]) || !bytes.Equal(rooms[1], before[1]) {
			t.Fatalf("R5: %q have been changed: %q", before, rooms)
		}
	}
}

// TestNothingIsKept: R5, R8: what the caller writes later is seen by the next call, and only by it.
func TestNothingIsKept(t *testing.T) {
	d := probe.Dice(1811)
	for _, x := range many(t, &d) {
		h := handing(x.g, x.c)
		says(t, "R8", h.g, h.c, x.want)
		for _, list := range h.inner {
			probe.Spoil(list, 1000000000)
		}
		probe.Spoil(h.named, api.Edge{U: 1, V: 1})
		if x.want != api.ErrGraph && len(x.c.Edges) > 0 {
			says(t, "R8", h.g, h.c, api.ErrBadCert)
		}
		probe.Spoil(h.edges, api.Edge{U: -7, V: -7})
		if len(x.g.Edges) > 0 {
			says(t, "R8", h.g, h.c, api.ErrGraph)
		}
		says(t, "R8", x.g, x.c, x.want)
	}
}

// TestEarlierCalls: R8: what has been called before is not to be seen.
func TestEarlierCalls(t *testing.T) {
	d := probe.Dice(1812)
	list := many(t, &d)
	for range 4 {
		for _, x := range list {
			says(t, "R8", x.g, x.c, x.want)
			says(t, "R8", x.g, x.c, x.want)
		}
		slices.Reverse(list)
	}
}

// TestOneListTwice: R5: the graph's edges may be the certificate's own, and lists of the certificate may be one and the same.
func TestOneListTwice(t *testing.T) {
	for _, g := range []api.Graph{k5(), k33(), probe.DividedAll(k5(), 2)} {
		says(t, "R5", g, api.Cert{Edges: g.Edges}, api.OK)
		says(t, "R5", probe.With(g.N, g.Edges[:8]...), api.Cert{Edges: g.Edges}, api.ErrNotIn)
		says(t, "R5", g, api.Cert{Edges: g.Edges[:8]}, api.ErrNotKura)
	}
	one, other := []int{0, 2}, []int{1, 3}
	says(t, "R5", probe.Cycle(4), round(other, one, other, one), api.OK)
}

// TestSideBySide: R8: calls at the same time, of the same graphs and certificates, keep out of each other's way.
func TestSideBySide(t *testing.T) {
	d := probe.Dice(1813)
	list := many(t, &d)
	wrong := make([]bool, 8)
	var workers sync.WaitGroup
	for worker := range wrong {
		workers.Go(func() {
			for _, x := range list {
				wrong[worker] = wrong[worker] || check.Graph(x.g, x.c) != x.want
			}
		})
	}
	workers.Wait()
	if slices.Contains(wrong, true) {
		t.Error("R8: calls side by side answer something else")
	}
}
