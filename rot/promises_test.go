package rot_test

import (
	"slices"
	"testing"

	"tangram/api"
	"tangram/probe"
	"tangram/rot"
)

// turned is a graph with a rotation of it.
type turned struct {
	g api.Graph
	r api.Rotation
}

// many: rotations of small graphs and of thrown ones, their lists beginning anywhere.
func many() []turned {
	d := probe.Dice(1108)
	var all []turned
	for n := range 5 {
		for _, g := range probe.Graphs(n) {
			for r := range probe.Rotations(g) {
				all = append(all, turned{g, d.Turned(r)})
			}
		}
	}
	for _, g := range slices.Concat(probe.Small(), ordinary()) {
		all = append(all, turned{g, d.Rotation(g)})
	}
	for range 300 {
		n := 3 + d.Below(40)
		for _, g := range []api.Graph{d.Thin(n, d.Below(20)), d.Triangles(n, n)} {
			all = append(all, turned{g, d.Rotation(g)})
		}
	}
	return all
}

// canonical: a rotation of the graph whose lists begin with their least half-edges.
func canonical(t *testing.T, what string, g api.Graph, r api.Rotation) {
	t.Helper()
	if v, code := rot.Check(g, r); v != 0 || code != api.OK {
		t.Fatalf("P11.2: %s: %v is no rotation of %v: %d, %d", what, r, g, v, code)
	}
	for _, list := range r {
		if len(list) > 0 && list[0] != slices.Min(list) {
			t.Fatalf("P11.2: %s: %v isn't canonical", what, r)
		}
	}
}

// TestCanonicalRotations: P11.2: Canon and Mirror of a rotation; Canon of Canon, Mirror of Mirror.
func TestCanonicalRotations(t *testing.T) {
	for _, x := range many() {
		canon, mirror := rot.Canon(x.r), rot.Mirror(x.r)
		canonical(t, "Canon", x.g, canon)
		canonical(t, "Mirror", x.g, mirror)
		if !rot.Same(x.r, canon) || !rot.Same(canon, x.r) {
			t.Fatalf("P11.2: %v: Canon: %v, and they aren't Same", x.r, canon)
		}
		for _, c := range []struct {
			what string
			got  api.Rotation
		}{{"Canon of Canon", rot.Canon(canon)}, {"Mirror of Mirror", rot.Mirror(mirror)}} {
			if !probe.SameLists(c.got, canon) {
				t.Fatalf("P11.2: %v: %s is %v, Canon %v", x.r, c.what, c.got, canon)
			}
		}
		if !probe.SameLists(rot.Canon(mirror), mirror) || !probe.SameLists(rot.Mirror(canon), mirror) {
			t.Fatalf("P11.2: %v: Mirror %v, Canon of it %v, Mirror of Canon %v", x.r, mirror, rot.Canon(mirror), rot.Mirror(canon))
		}
	}
}

// sameByCanon: P11.2: Same just if the Canons are equal.
func sameByCanon(t *testing.T, a, b api.Rotation) bool {
	t.Helper()
	want := probe.SameLists(rot.Canon(a), rot.Canon(b))
	if got := rot.Same(a, b); got != want {
		t.Fatalf("P11.2: Same(%v, %v): %v; their Canons are %v, %v", a, b, got, rot.Canon(a), rot.Canon(b))
	}
	return want
}

// TestSameRotations: each two of a graph, if they aren't too many; else one with its turns, its mirror and others.
func TestSameRotations(t *testing.T) {
	for _, g := range append(probe.Graphs(3), tail(), probe.Star(4, 1), probe.Cycle(4), probe.Star(5, 4), probe.Path(5)) {
		all := slices.Collect(probe.TurnedRotations(g))
		for _, a := range all {
			for _, b := range all {
				sameByCanon(t, a, b)
			}
		}
	}
	d := probe.Dice(1109)
	yes, no := 0, 0
	for _, x := range many() {
		if !sameByCanon(t, x.r, d.Turned(x.r)) {
			t.Fatalf("P11.2: %v, and turned", x.r)
		}
		for _, other := range []api.Rotation{d.Rotation(x.g), rot.Mirror(x.r)} {
			if sameByCanon(t, x.r, other) {
				yes++
			} else {
				no++
			}
		}
	}
	if min(yes, no) < 500 {
		t.Errorf("the test itself: %d times Same, %d times not", yes, no)
	}
}

// TestNextGoesRound: P11.3.
func TestNextGoesRound(t *testing.T) {
	for _, x := range many() {
		next, _ := accepted(t, x.g, x.r)
		sorted := slices.Clone(next)
		slices.Sort(sorted)
		if !slices.Equal(sorted, probe.Rising(2*len(x.g.Edges))) {
			t.Fatalf("P11.3: %v: Next is no permutation: %v", x.r, next)
		}
		leaving := probe.Leaving(x.g)
		for h := range next {
			way := []int{h}
			for k := next[h]; k != h && len(way) < len(next); k = next[k] {
				way = append(way, k)
			}
			from, _ := probe.Ends(x.g, h)
			if list := x.r[from]; !slices.Equal(way, probe.Turn(list, slices.Index(list, h))) {
				t.Fatalf("P11.3: %v: from %d on Next goes %v", x.r, h, way)
			}
			slices.Sort(way)
			slices.Sort(leaving[from])
			if !slices.Equal(way, leaving[from]) {
				t.Fatalf("P11.3: %v: from %d on Next goes by %v, %v leave", x.r, h, way, leaving[from])
			}
		}
	}
}

// TestThereAndBack: P11.4: From of Around, Around of From; lists begin as they are handed in.
func TestThereAndBack(t *testing.T) {
	d := probe.Dice(1110)
	for _, x := range many() {
		_, around := accepted(t, x.g, x.r)
		if back := taken(t, x.g, around); !probe.SameLists(back, x.r) {
			t.Fatalf("P11.4: From of Around of %v: %v", x.r, back)
		}
		names := neighbours(x.g)
		for v, list := range names {
			names[v] = probe.Mixed(&d, list)
		}
		if _, back := accepted(t, x.g, taken(t, x.g, names)); !probe.SameLists(back, names) {
			t.Fatalf("P11.4: Around of From of %v: %v", names, back)
		}
	}
}

// TestWhatFromAccepts: P11.4: just lists that have their vertex's neighbours, each once.
func TestWhatFromAccepts(t *testing.T) {
	d := probe.Dice(1111)
	yes, no := 0, 0
	for _, x := range many() {
		if x.g.N == 0 {
			continue
		}
		names := neighbours(x.g)
		lists := slowAround(x.g, x.r)
		if d.Below(2) == 0 {
			lists = spoiled(&d, lists, append(probe.Rising(x.g.N), -1, x.g.N))
		}
		want := slices.EqualFunc(lists, names, func(a, b []int) bool {
			return slices.Equal(slices.Sorted(slices.Values(a)), slices.Sorted(slices.Values(b)))
		})
		r, v, code := rot.From(x.g, lists)
		if (code == api.OK) != want || code == api.OK && v != 0 || code != api.OK && len(r) != 0 {
			t.Fatalf("P11.4: From(%v, %v): %v, %d, %d", x.g, lists, r, v, code)
		}
		if want {
			yes++
		} else {
			no++
		}
	}
	if min(yes, no) < 300 {
		t.Errorf("the test itself: %d times accepted, %d times not", yes, no)
	}
}
