package faces_test

import (
	"slices"
	"sync"
	"testing"

	"tangram/api"
	"tangram/faces"
	"tangram/probe"
)

// TestNilAndEmpty: R4: lists without elements may be nil or empty, the edges, too; a list of no lists is another thing than one of empty ones.
func TestNilAndEmpty(t *testing.T) {
	for _, edges := range [][]api.Edge{nil, {}, make([]api.Edge, 0, 4)} {
		for _, lists := range []api.Rotation{nil, {}, make(api.Rotation, 0, 4)} {
			has(t, api.Graph{Edges: edges}, lists, 0)
			refused(t, api.Graph{N: 1, Edges: edges}, lists, api.ErrRotLength)
		}
		for _, lists := range []api.Rotation{{nil, nil, nil}, {{}, {}, {}}, {nil, {}, make([]int, 0, 3)}} {
			has(t, api.Graph{N: 3, Edges: edges}, lists, 0)
		}
	}
	g := probe.With(4, api.Edge{U: 1, V: 3})
	for _, empty := range [][]int{nil, {}, make([]int, 0, 3)} {
		has(t, g, api.Rotation{empty, {0}, empty, {1}}, 0, []int{0, 1})
		refused(t, g, api.Rotation{empty, {0}, empty, empty}, api.ErrRotMissing)
	}
}

const spare = -99

// packed: the same lists as pieces of one array, some room between them: what is appended to one of them writes over the others.
func packed(lists [][]int) (pieces [][]int, array []int) {
	for _, list := range lists {
		array = append(append(array, list...), spare, spare)
	}
	at := 0
	for _, list := range lists {
		pieces = append(pieces, array[at:at+len(list)])
		at += len(list) + 2
	}
	return pieces, array
}

// handed is what is handed in, with its spare room.
type handed struct {
	g     api.Graph
	lists [][]int
	edges []api.Edge
	array []int
	outer [][]int
}

func handing(g api.Graph, lists [][]int) handed {
	x := handed{g: g}
	pieces, array := packed(lists)
	x.array = array
	x.g.Edges, x.edges = probe.Roomy(g.Edges, api.Edge{U: 0, V: 1})
	x.lists, x.outer = probe.Roomy(pieces, array)
	return x
}

// same: with the room of all lists, and each list still the same piece.
func (x handed) same(y handed) bool {
	return slices.Equal(x.edges, y.edges) && slices.Equal(x.array, y.array) && probe.SameLists(x.outer, y.outer)
}

// thrown: graphs with rotations of them.
func thrown() []turned {
	d := probe.Dice(1209)
	var all []turned
	for _, g := range []api.Graph{probe.Cycle(3), probe.Complete(5), probe.Path(4), probe.Star(6, 2), probe.With(3), probe.With(0), probe.Beside(probe.Wheel(4), probe.With(2), probe.Cycle(3))} {
		all = append(all, turned{g, d.Rotation(g)})
	}
	for range 80 {
		g := d.Graph(1+d.Below(9), d.Below(101))
		all = append(all, turned{g, d.Rotation(g)})
	}
	return all
}

// askAll makes all calls, whatever they answer.
func askAll(x handed) {
	faces.Of(x.g, x.lists)
	faces.Left(x.g, x.lists)
	faces.Genus(x.g, x.lists)
	faces.Flat(x.g, x.lists)
}

// TestArgumentsUnchanged: R5: with their spare room; of rotations, of lists and graphs that are refused.
func TestArgumentsUnchanged(t *testing.T) {
	d := probe.Dice(1210)
	for _, c := range thrown() {
		all := [][][]int{c.r, c.r[:c.g.N/2]}
		if c.g.N > 0 {
			all = append(all, spoiled(&d, c.r, append(probe.Rising(2*len(c.g.Edges)), -1)))
		}
		for _, lists := range all {
			for _, g := range []api.Graph{c.g, {N: c.g.N, Edges: append([]api.Edge{{U: 1, V: 1}}, c.g.Edges...)}} {
				x, before := handing(g, lists), handing(g, lists)
				askAll(x)
				if !x.same(before) {
					t.Fatalf("R5: handed in was %+v, it is now %+v", before, x)
				}
			}
		}
	}
}

// ownMemory: what make answers is want. Each of its lists is written over and appended to, with its spare room, then the list of them: what was handed in is as it was, so are the answer's other lists, and so are another answer and the next one.
func ownMemory(t *testing.T, what string, x handed, want [][]int, make func() [][]int) {
	t.Helper()
	before := handed{edges: slices.Clone(x.edges), array: slices.Clone(x.array), outer: probe.CopyLists(x.outer)}
	other := make()
	for i := range want {
		answer := make()
		probe.Spoil(answer[i], -7)
		answer[i] = want[i]
		if !probe.SameLists(answer, want) {
			t.Fatalf("R5: %s: the list %d written over, and the answer is %v, want %v", what, i, answer, want)
		}
	}
	probe.Spoil(make(), []int{-7})
	if again := make(); !probe.SameLists(other, want) || !probe.SameLists(again, want) {
		t.Fatalf("R5: %s: one answer written over, and others are %v, %v, want %v", what, other, again, want)
	}
	if !x.same(before) {
		t.Fatalf("R5: %s: the answer written over, and what was handed in is %+v, before %+v", what, x, before)
	}
}

func TestAnswersOwnMemory(t *testing.T) {
	for _, c := range thrown() {
		x := handing(c.g, c.r)
		want := slowFaces(c.g, c.r)
		ownMemory(t, "Of", x, want, func() [][]int {
			all, _ := faces.Of(x.g, x.lists)
			return all
		})
		ownMemory(t, "Left", x, [][]int{slowLeft(c.g, want)}, func() [][]int {
			left, _ := faces.Left(x.g, x.lists)
			return [][]int{left}
		})
	}
}

// TestNothingIsKept: what the caller writes later in what it has handed in is not to be seen in the answers, and is seen by the next call.
func TestNothingIsKept(t *testing.T) {
	g := probe.Complete(4)
	r := api.Rotation{{0, 2, 4}, {1, 8, 6}, {3, 7, 10}, {5, 11, 9}}
	got := accepted(t, g, r)
	r[1][1], r[1][2], r[3][1], r[3][2] = 6, 8, 9, 11
	if !probe.SameLists(got.faces, [][]int{{0, 8, 5}, {1, 2, 7}, {3, 4, 11}, {6, 10, 9}}) || !slices.Equal(got.left, []int{0, 1, 1, 2, 2, 0, 3, 1, 0, 3, 3, 2}) {
		t.Errorf("R5: the rotation written over, and the faces are %v, Left %v", got.faces, got.left)
	}
	has(t, g, r, 1, []int{0, 6, 10, 5}, []int{1, 2, 7, 8, 11, 3, 4, 9})
	r[2][0] = 4
	refused(t, g, r, api.ErrRotHalf)
	r[2][0] = 3
	g.Edges[1] = api.Edge{U: 0, V: 1}
	refused(t, g, r, api.ErrGraph)
	g.Edges[1] = api.Edge{U: 0, V: 2}
	has(t, g, r, 1, []int{0, 6, 10, 5}, []int{1, 2, 7, 8, 11, 3, 4, 9})
}

// TestEarlierCalls: R8: what has been called before is not to be seen, calls that went wrong among it.
func TestEarlierCalls(t *testing.T) {
	all := thrown()
	for range 3 {
		for _, c := range slices.Concat(all, all) {
			refused(t, probe.With(2, api.Edge{U: 1, V: 0}), c.r, api.ErrGraph)
			refused(t, probe.Cycle(3), api.Rotation{{0, 2}, {1, 1}, {3, 5}}, api.ErrRotTwice)
			agrees(t, c.g, c.r)
			agrees(t, c.g, handing(c.g, c.r).lists)
		}
		slices.Reverse(all)
	}
}

// TestSideBySide: R8: calls at the same time, of the same lists, keep out of each other's way: also those that are refused.
func TestSideBySide(t *testing.T) {
	all := thrown()
	wrong := make([]bool, 8)
	var workers sync.WaitGroup
	for worker := range wrong {
		workers.Go(func() {
			for _, c := range all {
				want := slowFaces(c.g, c.r)
				got, code := faces.Of(c.g, c.r)
				left, code2 := faces.Left(c.g, c.r)
				genus, code3 := faces.Genus(c.g, c.r)
				if code != api.OK || code2 != api.OK || code3 != api.OK || !probe.SameLists(got, want) || !slices.Equal(left, slowLeft(c.g, want)) || faces.Flat(c.g, c.r) != (genus == 0) {
					wrong[worker] = true
				}
				faulty := append(probe.CopyLists(c.r), []int{worker})
				if _, code := faces.Genus(api.Graph{N: c.g.N + 1, Edges: c.g.Edges}, faulty); code != api.ErrRotHalf {
					wrong[worker] = true
				}
			}
		})
	}
	workers.Wait()
	if slices.Contains(wrong, true) {
		t.Error("R8: calls side by side answer something else")
	}
}
