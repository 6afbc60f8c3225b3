package faces_test

import (
	"slices"
	"testing"

	"tangram/api"
	"tangram/probe"
)

// TestGreatRotations: graphs at the limits with rotations that are thrown; all but the last have no cycle or are one.
func TestGreatRotations(t *testing.T) {
	d := probe.Dice(1208)
	for _, g := range probe.Great() {
		x := turned{g, d.Rotation(g)}
		got := accepted(t, x.g, x.r)
		whole(t, x, got)
		sums(t, x, got)
		if len(g.Edges) <= g.N != (got.genus == 0) {
			t.Errorf("P12.3: %v: genus %d", probe.Shown(g), got.genus)
		}
	}
}

// TestGreatGrids: as many vertices as may be, in the plane and on a torus.
func TestGreatGrids(t *testing.T) {
	x := plane(t, 1024, 1024)
	got := accepted(t, x.g, x.r)
	whole(t, x, got)
	if got.genus != 0 || !slices.Equal(lengths(got.faces), squares(1023*1023, 4*1023)) {
		t.Errorf("P12.3: a great grid: genus %d, %d faces", got.genus, len(got.faces))
	}
	x = ring(t, 1024, 1024)
	got = accepted(t, x.g, x.r)
	whole(t, x, got)
	if got.genus != 1 || !slices.Equal(lengths(got.faces), squares(1024*1024)) {
		t.Errorf("P12.3: a great ring: genus %d, %d faces", got.genus, len(got.faces))
	}
}

// TestManyParts: as many K4 as there may be, every second one of genus 1.
func TestManyParts(t *testing.T) {
	const count = api.MaxN / 4
	g := api.Graph{N: api.MaxN}
	r := make(api.Rotation, 0, api.MaxN)
	for k := range count {
		for _, e := range probe.Complete(4).Edges {
			g.Edges = append(g.Edges, api.Edge{U: 4*k + e.U, V: 4*k + e.V})
		}
		part := api.Rotation{{0, 2, 4}, {1, 8, 6}, {3, 7, 10}, {5, 11, 9}}
		if k%2 == 1 {
			part = api.Rotation{{0, 2, 4}, {1, 6, 8}, {3, 7, 10}, {5, 9, 11}}
		}
		for _, list := range part {
			for i := range list {
				list[i] += 12 * k
			}
			r = append(r, list)
		}
	}
	x := turned{g, r}
	got := accepted(t, g, r)
	whole(t, x, got)
	sums(t, x, got)
	if got.genus != count/2 || len(got.faces) != 3*count {
		t.Errorf("P12.3: %d parts: genus %d, %d faces", count, got.genus, len(got.faces))
	}
}

// TestGreatFaults: the last list of many is wrong, twice, missing; a list too few and too many.
func TestGreatFaults(t *testing.T) {
	g := probe.Cycle(api.MaxN)
	r := api.Rotation(probe.Leaving(g))
	last := api.MaxN - 1
	for _, c := range []struct {
		list []int
		want api.Errno
	}{
		{append(slices.Clone(r[last]), 2*len(g.Edges)), api.ErrRotHalf},
		{append(slices.Clone(r[last]), 0), api.ErrRotHalf},
		{append(slices.Clone(r[last]), r[last][0]), api.ErrRotTwice},
		{r[last][1:], api.ErrRotMissing},
	} {
		faulty := slices.Clone(r)
		faulty[last] = c.list
		refused(t, g, faulty, c.want)
	}
	refused(t, g, r[1:], api.ErrRotLength)
	refused(t, g, append(slices.Clone(r), nil), api.ErrRotLength)
}
