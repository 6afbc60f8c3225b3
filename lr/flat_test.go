package lr_test

import (
	"testing"

	"tangram/api"
	"tangram/comps"
	"tangram/probe"
)

// faces: how many faces a rotation has, of which next tells by half-edge the one behind it.
func faces(next []int) int {
	count := 0
	seen := make([]bool, len(next))
	for h := range next {
		if seen[h] {
			continue
		}
		count++
		for k := h; !seen[k]; k = next[k^1] {
			seen[k] = true
		}
	}
	return count
}

// flatFaces: how many faces the rotations of genus 0 have: n - m + f is 2c - i.
func flatFaces(g api.Graph) int {
	_, components, _ := comps.Of(g)
	isolated, _ := comps.Isolated(g)
	return 2*components - isolated - g.N + len(g.Edges)
}

// rotations: how many there are; lists are cyclic.
func rotations(g api.Graph) int {
	count := 1
	for _, list := range probe.Leaving(g) {
		for k := 2; k < len(list); k++ {
			count *= k
		}
	}
	return count
}

// hasFlat: whether one of all rotations is flat.
func hasFlat(g api.Graph) bool {
	want := flatFaces(g)
	leaving := probe.Leaving(g)
	next := make([]int, 2*len(g.Edges))
	var try func(v int) bool
	try = func(v int) bool {
		if v == g.N {
			return faces(next) == want
		}
		if len(leaving[v]) == 0 {
			return try(v + 1)
		}
		for _, rest := range probe.Arranged(leaving[v][1:]) {
			last := leaving[v][0]
			for _, h := range rest {
				next[last] = h
				last = h
			}
			next[last] = leaving[v][0]
			if try(v + 1) {
				return true
			}
		}
		return false
	}
	return try(0)
}

// flatAgrees: Planar answers whether there is a flat rotation.
func flatAgrees(t *testing.T, g api.Graph) bool {
	t.Helper()
	want := hasFlat(g)
	if got := planar(t, g); got != want {
		t.Fatalf("P10.2: Planar(%v): %v; a flat rotation: %v", g, got, want)
	}
	return want
}

// TestFlatRotations: all graphs of up to five vertices, and those of six whose rotations can all be tried.
func TestFlatRotations(t *testing.T) {
	var c tally
	for n := range 7 {
		for _, g := range probe.Graphs(n) {
			if rotations(g) <= 10_000 {
				c.add(flatAgrees(t, g))
			}
		}
	}
	c.both(t, 50)
}

// TestFlatRotationsOfThinGraphs: more vertices, of few edges each.
func TestFlatRotationsOfThinGraphs(t *testing.T) {
	var c tally
	for _, k := range kuratowski() {
		c.add(flatAgrees(t, k.g))
	}
	d := probe.Dice(109)
	for range 1500 {
		n := 6 + d.Below(8)
		var pairs [][2]int
		degree := make([]int, n)
		for _, p := range d.Pairs(n, 4*n) {
			if p[0] != p[1] && degree[p[0]] < 3 && degree[p[1]] < 3 {
				pairs = append(pairs, p)
				degree[p[0]]++
				degree[p[1]]++
			}
		}
		c.add(flatAgrees(t, probe.OfPairs(n, pairs)))
	}
	c.both(t, 100)
}
