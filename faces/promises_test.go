package faces_test

import (
	"slices"
	"testing"

	"tangram/api"
	"tangram/comps"
	"tangram/probe"
	"tangram/rot"
)

// turned is a graph with a rotation of it.
type turned struct {
	g api.Graph
	r api.Rotation
}

// many: rotations of small graphs and of thrown ones, their lists beginning anywhere.
func many() []turned {
	d := probe.Dice(1205)
	var all []turned
	for n := range 5 {
		for _, g := range probe.Graphs(n) {
			for r := range probe.Rotations(g) {
				all = append(all, turned{g, d.Turned(r)})
			}
		}
	}
	for _, g := range slices.Concat(probe.Small(), ordinary()) {
		all = append(all, turned{g, d.Rotation(g)})
	}
	for range 300 {
		n := 3 + d.Below(40)
		for _, g := range []api.Graph{d.Thin(n, d.Below(20)), d.Triangles(n, n), probe.Beside(d.Graph(n, 10), probe.With(1), d.Triangles(3+n%5, 4))} {
			all = append(all, turned{g, d.Rotation(g)})
		}
	}
	return all
}

// whole: each half-edge is in just one face, each face goes step by step from its least half-edge on and back to it, faces rise by their first half-edges, and Left numbers them.
func whole(t *testing.T, x turned, got told) {
	t.Helper()
	next, _ := rot.Next(x.g, x.r)
	count := 0
	for number, face := range got.faces {
		if len(face) == 0 || face[0] != slices.Min(face) || number > 0 && face[0] <= got.faces[number-1][0] {
			t.Fatalf("P12.1: %v: face %d: %v", probe.Shown(x.g), number, face)
		}
		for i, h := range face {
			if step := face[(i+1)%len(face)]; next[h^1] != step {
				t.Fatalf("P12.1: %v: behind %d comes %d, want %d", probe.Shown(x.g), h, step, next[h^1])
			}
			if got.left[h] != number {
				t.Fatalf("P12.2: %v: Left of %d: %d, want %d", probe.Shown(x.g), h, got.left[h], number)
			}
		}
		count += len(face)
	}
	// Left has one number a half-edge: so none is in two faces, and if as many are in faces as there are, none is missing.
	if count != 2*len(x.g.Edges) || len(got.left) != 2*len(x.g.Edges) {
		t.Fatalf("P12.1: %v: %d half-edges in faces, %d in Left, want %d", probe.Shown(x.g), count, len(got.left), 2*len(x.g.Edges))
	}
}

// sums: P12.5: n - m + f is 2c - i - 2 * Genus; the genus isn't below 0.
func sums(t *testing.T, x turned, got told) {
	t.Helper()
	_, c, _ := comps.Of(x.g)
	i, _ := comps.Isolated(x.g)
	if left, right := x.g.N-len(x.g.Edges)+len(got.faces), 2*c-i-2*got.genus; left != right || got.genus < 0 {
		t.Fatalf("P12.5: %v: n - m + f is %d, 2c - i - 2 * Genus %d, Genus %d", probe.Shown(x.g), left, right, got.genus)
	}
}

func TestFacesAndGenus(t *testing.T) {
	flat, other := 0, 0
	for _, x := range many() {
		got := accepted(t, x.g, x.r)
		whole(t, x, got)
		sums(t, x, got)
		if got.genus == 0 {
			flat++
		} else {
			other++
		}
	}
	if min(flat, other) < 200 {
		t.Errorf("the test itself: %d flat, %d not", flat, other)
	}
}

// sameFaces: where lists begin doesn't matter.
func sameFaces(t *testing.T, x turned, other api.Rotation, want told) {
	t.Helper()
	got := accepted(t, x.g, other)
	if !probe.SameLists(got.faces, want.faces) || !slices.Equal(got.left, want.left) || got.genus != want.genus {
		t.Fatalf("P12.5: %v: of genus %d, and turned to %v of genus %d, with other faces", x.r, want.genus, other, got.genus)
	}
}

func TestWhereListsBegin(t *testing.T) {
	d := probe.Dice(1206)
	for _, x := range many() {
		want := accepted(t, x.g, x.r)
		sameFaces(t, x, rot.Canon(x.r), want)
		sameFaces(t, x, d.Turned(x.r), want)
	}
}

// backward: the other sides of a face's edges, gone by the other way; the least first.
func backward(face []int) []int {
	var list []int
	for _, h := range slices.Backward(face) {
		list = append(list, h^1)
	}
	return probe.Turn(list, slices.Index(list, slices.Min(list)))
}

// TestMirrored: as many faces of the same lengths, and the same genus: each face is gone by the other way on the other sides of its edges.
func TestMirrored(t *testing.T) {
	for _, x := range many() {
		one, other := accepted(t, x.g, x.r), accepted(t, x.g, rot.Mirror(x.r))
		if !slices.Equal(lengths(one.faces), lengths(other.faces)) || one.genus != other.genus {
			t.Fatalf("P12.5: %v: lengths %v, genus %d; mirrored %v, %d", x.r, lengths(one.faces), one.genus, lengths(other.faces), other.genus)
		}
		var want [][]int
		for _, face := range one.faces {
			want = append(want, backward(face))
		}
		slices.SortFunc(want, slices.Compare[[]int])
		if !probe.SameLists(other.faces, want) {
			t.Fatalf("P12.1: %v: mirrored it has the faces %v, want %v", x.r, other.faces, want)
		}
	}
}

// lengths: of lists, rising.
func lengths(lists [][]int) []int {
	var all []int
	for _, list := range lists {
		all = append(all, len(list))
	}
	slices.Sort(all)
	return all
}

// thrownForest: a graph without cycles, of one tree or several.
func thrownForest(d *probe.Dice, n, k int) api.Graph {
	var pairs [][2]int
	for v := 1; v < n; v++ {
		if d.Below(100) < k {
			pairs = append(pairs, [2]int{d.Below(v), v})
		}
	}
	return d.Renamed(probe.OfPairs(n, pairs))
}

// TestForestsAreFlat: P12.5: whatever their rotation, each tree has one face.
func TestForestsAreFlat(t *testing.T) {
	d := probe.Dice(1207)
	for range 1500 {
		g := thrownForest(&d, 1+d.Below(30), d.Below(101))
		got := accepted(t, g, d.Rotation(g))
		_, c, _ := comps.Of(g)
		i, _ := comps.Isolated(g)
		if got.genus != 0 || len(got.faces) != c-i {
			t.Fatalf("P12.5: the forest %v has genus %d with %d faces, want 0 with %d", g, got.genus, len(got.faces), c-i)
		}
	}
	for _, g := range []api.Graph{probe.Star(6, 2), probe.Path(6), probe.Hung(probe.Star(5, 0), 0, probe.Star(4, 1), 1)} {
		for r := range probe.TurnedRotations(g) {
			if got := accepted(t, g, r); got.genus != 0 || len(got.faces) != 1 {
				t.Fatalf("P12.5: the tree %v with %v has genus %d", g, r, got.genus)
			}
		}
	}
}

// TestCyclesAreFlat: each vertex has two edges at most, so there is one rotation: two faces a cycle.
func TestCyclesAreFlat(t *testing.T) {
	for n := 3; n < 40; n++ {
		g := probe.Cycle(n)
		if got := accepted(t, g, probe.Leaving(g)); got.genus != 0 || !slices.Equal(lengths(got.faces), []int{n, n}) {
			t.Errorf("P12.3: the cycle of %d: %+v", n, got)
		}
	}
}

// TestKnownGenera: how many rotations of a graph have which genus, as books tell.
func TestKnownGenera(t *testing.T) {
	for _, c := range []struct {
		g    api.Graph
		want []int
	}{
		{probe.Complete(4), []int{2, 14}},
		{probe.Complete(5), []int{0, 462, 4974, 2340}},
		{probe.TwoPart(3, 3), []int{0, 40, 24}},
		{probe.Wheel(4), []int{2, 58, 36}},
	} {
		got := make([]int, len(c.want))
		for r := range probe.Rotations(c.g) {
			genus := accepted(t, c.g, r).genus
			if genus >= len(got) {
				t.Fatalf("P12.3: Genus(%v, %v): %d", c.g, r, genus)
			}
			got[genus]++
		}
		if !slices.Equal(got, c.want) {
			t.Errorf("P12.3: %v: by genus so many rotations: %v, want %v", c.g, got, c.want)
		}
	}
}

// ring: a grid whose rows and columns close, drawn on a torus: by vertex those above, right, below, left.
func ring(t *testing.T, rows, columns int) turned {
	t.Helper()
	at := func(i, j int) int { return (i+rows)%rows*columns + (j+columns)%columns }
	var around [][]int
	var edges []api.Edge
	for i := range rows {
		for j := range columns {
			v := at(i, j)
			round := []int{at(i-1, j), at(i, j+1), at(i+1, j), at(i, j-1)}
			around = append(around, round)
			for _, w := range slices.Sorted(slices.Values(round)) {
				if v < w {
					edges = append(edges, api.Edge{U: v, V: w})
				}
			}
		}
	}
	g := probe.With(rows*columns, edges...)
	return turned{g, turnedBy(t, g, around)}
}

// plane: a grid as it is drawn: by vertex those above, right, below, left, as far as there are any.
func plane(t *testing.T, rows, columns int) turned {
	t.Helper()
	var around [][]int
	for i := range rows {
		for j := range columns {
			var round []int
			for _, p := range [][2]int{{i - 1, j}, {i, j + 1}, {i + 1, j}, {i, j - 1}} {
				if p[0] >= 0 && p[0] < rows && p[1] >= 0 && p[1] < columns {
					round = append(round, p[0]*columns+p[1])
				}
			}
			around = append(around, round)
		}
	}
	g := probe.Grid(rows, columns)
	return turned{g, turnedBy(t, g, around)}
}

// squares: the face lengths of a grid.
func squares(count int, more ...int) []int {
	return slices.Sorted(slices.Values(append(slices.Repeat([]int{4}, count), more...)))
}

func TestGrids(t *testing.T) {
	for rows := 3; rows < 9; rows++ {
		for columns := 3; columns < 9; columns++ {
			x := ring(t, rows, columns)
			if got := accepted(t, x.g, x.r); got.genus != 1 || !slices.Equal(lengths(got.faces), squares(rows*columns)) {
				t.Errorf("P12.3: a ring of %d times %d: genus %d, lengths %v", rows, columns, got.genus, lengths(got.faces))
			}
			x = plane(t, rows, columns)
			if got := accepted(t, x.g, x.r); got.genus != 0 || !slices.Equal(lengths(got.faces), squares((rows-1)*(columns-1), 2*(rows+columns-2))) {
				t.Errorf("P12.3: a grid of %d times %d: genus %d, lengths %v", rows, columns, got.genus, lengths(got.faces))
			}
		}
	}
}

// TestSevenOnATorus: K7 stands on a torus with triangles alone.
func TestSevenOnATorus(t *testing.T) {
	var around [][]int
	for v := range 7 {
		var round []int
		for _, k := range []int{1, 3, 2, 6, 4, 5} {
			round = append(round, (v+k)%7)
		}
		around = append(around, round)
	}
	g := probe.Complete(7)
	if got := accepted(t, g, turnedBy(t, g, around)); got.genus != 1 || !slices.Equal(lengths(got.faces), slices.Repeat([]int{3}, 14)) {
		t.Errorf("P12.3: K7: genus %d, lengths %v", got.genus, lengths(got.faces))
	}
}
