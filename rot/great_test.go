package rot_test

import (
	"slices"
	"testing"

	"tangram/api"
	"tangram/probe"
	"tangram/rot"
)

// great: graphs at the limits with a rotation of each that is thrown.
func great() []turned {
	d := probe.Dice(1114)
	var all []turned
	for _, g := range probe.Great() {
		all = append(all, turned{g, d.Rotation(g)})
	}
	return all
}

// roundAgrees: Next and Around of a great rotation, asked place by place.
func roundAgrees(t *testing.T, x turned, next []int, around [][]int) {
	t.Helper()
	if len(next) != 2*len(x.g.Edges) || len(around) != x.g.N {
		t.Fatalf("P11.1: %v: Next has %d elements, Around %d lists", probe.Shown(x.g), len(next), len(around))
	}
	for v, list := range x.r {
		if len(around[v]) != len(list) {
			t.Fatalf("P11.1: Around has %d vertices round %d, want %d", len(around[v]), v, len(list))
		}
		for i, h := range list {
			behind := list[0]
			if i < len(list)-1 {
				behind = list[i+1]
			}
			if _, to := probe.Ends(x.g, h); next[h] != behind || around[v][i] != to {
				t.Fatalf("P11.1: behind %d comes %d, want %d; it leads to %d, want %d", h, next[h], behind, around[v][i], to)
			}
		}
	}
}

// TestGreatRotations: the greatest stars, cycles, paths, as many edges as may be: there and back, turned and mirrored.
func TestGreatRotations(t *testing.T) {
	d := probe.Dice(1115)
	for _, x := range great() {
		next, code := rot.Next(x.g, x.r)
		around, code2 := rot.Around(x.g, x.r)
		if code != api.OK || code2 != api.OK {
			t.Fatalf("P11.1: %v: Next %d, Around %d", probe.Shown(x.g), code, code2)
		}
		roundAgrees(t, x, next, around)
		back, v, code := rot.From(x.g, around)
		if v != 0 || code != api.OK || !probe.SameLists(back, x.r) {
			t.Fatalf("P11.4: %v: From of Around: %d, %d", probe.Shown(x.g), v, code)
		}
		canon, mirror := rot.Canon(x.r), rot.Mirror(x.r)
		for v, list := range x.r {
			if !slices.Equal(canon[v], slowTurned(list)) || !slices.Equal(mirror[v], slowTurned(reversed(list))) {
				t.Fatalf("P11.1: %v: Canon or Mirror at %d", probe.Shown(x.g), v)
			}
		}
		if other := d.Turned(x.r); !rot.Same(x.r, other) || !rot.Same(canon, other) || !probe.SameLists(rot.Canon(other), canon) || !probe.SameLists(rot.Mirror(mirror), canon) {
			t.Fatalf("P11.2: %v: turned it isn't Same", probe.Shown(x.g))
		}
	}
}

// slowTurned: of a list whose elements differ.
func slowTurned(list []int) []int {
	if len(list) == 0 {
		return nil
	}
	return probe.Turn(list, slices.Index(list, slices.Min(list)))
}

func reversed(list []int) []int {
	list = slices.Clone(list)
	slices.Reverse(list)
	return list
}

// TestGreatFaults: the last element of the last list that has some is wrong, twice, missing; a list too few and too many.
func TestGreatFaults(t *testing.T) {
	for _, x := range great() {
		around, _ := rot.Around(x.g, x.r)
		n, m := x.g.N, len(x.g.Edges)
		v := n - 1
		for v > 0 && len(x.r[v]) == 0 {
			v--
		}
		for _, c := range []struct {
			half, vertex int
			want         api.Errno
		}{{2 * m, n, api.ErrRotHalf}, {-1, -1, api.ErrRotHalf}, {0, v, api.ErrRotHalf}} {
			halves, vertices := slices.Clone(x.r), slices.Clone(around)
			halves[v], vertices[v] = append(slices.Clone(halves[v]), c.half), append(slices.Clone(vertices[v]), c.vertex)
			greatFault(t, x.g, halves, vertices, v, c.want)
		}
		if m > 0 {
			halves, vertices := slices.Clone(x.r), slices.Clone(around)
			halves[v], vertices[v] = append(slices.Clone(halves[v]), halves[v][0]), append(slices.Clone(vertices[v]), vertices[v][0])
			greatFault(t, x.g, halves, vertices, v, api.ErrRotTwice)
			halves[v], vertices[v] = x.r[v][1:], around[v][1:]
			greatFault(t, x.g, halves, vertices, v, api.ErrRotMissing)
		}
		greatFault(t, x.g, x.r[1:], around[1:], 0, api.ErrRotLength)
		greatFault(t, x.g, append(slices.Clone(x.r), nil), append(slices.Clone(around), nil), 0, api.ErrRotLength)
	}
}

func greatFault(t *testing.T, g api.Graph, halves, vertices [][]int, v int, want api.Errno) {
	t.Helper()
	if got, code := rot.Check(g, halves); got != v || code != want {
		t.Errorf("P11.1: Check(%v): %d, %d, want %d, %d", probe.Shown(g), got, code, v, want)
	}
	if r, got, code := rot.From(g, vertices); len(r) != 0 || got != v || code != want {
		t.Errorf("P11.1: From(%v): %d, %d, want %d, %d", probe.Shown(g), got, code, v, want)
	}
}

// TestGreatListsOfEqualNumbers: asking turn by turn, each from its beginning on, would take hours.
func TestGreatListsOfEqualNumbers(t *testing.T) {
	const k = 1 << 20
	same := func(a, b []int) bool { return rot.Same(api.Rotation{a}, api.Rotation{b}) }
	one, far, two := make([]int, k), make([]int, k), make([]int, k)
	one[0], far[k-1] = 1, 1
	two[0], two[k/2] = 1, 1
	switch {
	case !same(one, far), !same(far, one):
		t.Error("P11.1: Same: one number differs, and they are turns")
	case same(one, two), same(two, one), same(one, make([]int, k)), same(make([]int, k), one):
		t.Error("P11.1: Same: more numbers differ")
	case !same(two, probe.Turn(two, k/4)), same(two, probe.Turn(one, k/4)):
		t.Error("P11.1: Same: two numbers differ")
	}
	if got := rot.Canon(api.Rotation{one}); !slices.Equal(got[0], far) {
		t.Error("P11.1: Canon of a great list")
	}
	if got := rot.Mirror(api.Rotation{far}); !slices.Equal(got[0], far) {
		t.Error("P11.1: Mirror of a great list")
	}
}
