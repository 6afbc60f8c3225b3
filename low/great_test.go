package low_test

import (
	"runtime/debug"
	"slices"
	"testing"

	"tangram/api"
	"tangram/low"
	"tangram/probe"
)

// twice: each of the numbers two times itself.
func twice(numbers []int) []int {
	list := make([]int, len(numbers))
	for i, x := range numbers {
		list[i] = 2 * x
	}
	return list
}

// zeros: as many as that.
func zeros(count int) []int { return make([]int, count) }

// TestGreatPath: nothing leads back. On so small a stack calls that went as deep as the path is long would end the program.
func TestGreatPath(t *testing.T) {
	const n = api.MaxN
	g := probe.Path(n)
	f := walked(t, g)
	defer debug.SetMaxStack(debug.SetMaxStack(1 << 20))
	l := of(t, g, f)
	heights := probe.Rising(n - 1)
	if !slices.Equal(l.Low, heights) || !slices.Equal(l.Low2, heights) || !slices.Equal(l.Nest, twice(heights)) {
		t.Error("P8.1: Of the longest path")
	}
	outReaches(t, g, f, l)
	for _, e := range []int{0, 1, n / 2, n - 2} {
		if list := returns(t, g, f, e); len(list) != 0 {
			t.Errorf("P8.1: Returns of the longest path, %d: %d edges", e, len(list))
		}
	}
}

// TestGreatCycle: the edge 1 leads back from the last vertex to the first.
func TestGreatCycle(t *testing.T) {
	const n = api.MaxN
	g := probe.Cycle(n)
	f := walked(t, g)
	defer debug.SetMaxStack(debug.SetMaxStack(1 << 20))
	l := of(t, g, f)
	seconds := append([]int{0, n - 1}, probe.Rising(n - 1)[1:]...)
	if !slices.Equal(l.Low, zeros(n)) || !slices.Equal(l.Low2, seconds) || !slices.Equal(l.Nest, zeros(n)) {
		t.Error("P8.1: Of the longest cycle")
	}
	outReaches(t, g, f, l)
	if list := returns(t, g, f, 0); len(list) != 0 {
		t.Errorf("P8.1: Returns of the longest cycle, 0: %d edges", len(list))
	}
	for _, e := range []int{1, 2, n / 2, n - 1} {
		if list := returns(t, g, f, e); !slices.Equal(list, []int{1}) {
			t.Errorf("P8.1: Returns of the longest cycle, %d: %d edges", e, len(list))
		}
	}
}

func TestGreatStar(t *testing.T) {
	const n = api.MaxN
	g := probe.Star(n, n-1)
	f := walked(t, g) // from the tip 0 to the middle, and on to the others
	l := of(t, g, f)
	ones := slices.Repeat([]int{1}, n-1)
	ones[0] = 0
	if !slices.Equal(l.Low, ones) || !slices.Equal(l.Low2, ones) || !slices.Equal(l.Nest, twice(ones)) {
		t.Error("P8.1: Of the greatest star")
	}
	outReaches(t, g, f, l)
}

// TestGreatFull: of a full graph, of nearly as many edges as may be, the walk goes from each vertex to the next; each leads back to all that are more than one ahead of it.
func TestGreatFull(t *testing.T) {
	const n = 2896
	g := probe.Complete(n)
	f := walked(t, g)
	l := of(t, g, f)
	for e, ends := range g.Edges {
		least, second, nest := ends.U, ends.V, 2*ends.U
		if ends.V == ends.U+1 {
			least, second, nest = 0, min(1, ends.U), 0
			if ends.U > 1 {
				nest = 1
			}
		}
		if l.Low[e] != least || l.Low2[e] != second || l.Nest[e] != nest {
			t.Fatalf("P8.1: K%d: of %v Low %d, Low2 %d, Nest %d, want %d, %d, %d", n, ends, l.Low[e], l.Low2[e], l.Nest[e], least, second, nest)
		}
	}
	goesOn(t, g, f, l)
	outReaches(t, g, f, l)
	if list := returns(t, g, f, n-1); len(list) != n-2 || !slices.Equal(list, probe.Rising(n - 1)[1:]) { // of {1 2}: all that lead to 0
		t.Errorf("P8.1: K%d: Returns of {1 2}: %d edges", n, len(list))
	}
}

// TestGreatGraphs: all those at the limits, right and with the last edge turned.
func TestGreatGraphs(t *testing.T) {
	for _, g := range probe.Great() {
		f := walked(t, g)
		l := of(t, g, f)
		goesOn(t, g, f, l)
		outReaches(t, g, f, l)
		if len(g.Edges) > 0 {
			f.Orient[len(g.Edges)-1] ^= 1
			if l, code := low.Of(g, f); code != api.ErrForest || !isNothing(l) {
				t.Errorf("P8.1: Of(%v), its last edge turned: %d", probe.Shown(g), code)
			}
		}
	}
}
