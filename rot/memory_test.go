package rot_test

import (
	"slices"
	"sync"
	"testing"

	"tangram/api"
	"tangram/probe"
	"tangram/rot"
)

// TestNilAndEmpty: R4: lists without elements may be nil or empty, the edges, too; a list of no lists is another thing than one of empty ones.
func TestNilAndEmpty(t *testing.T) {
	for _, edges := range [][]api.Edge{nil, {}, make([]api.Edge, 0, 4)} {
		for _, lists := range [][][]int{nil, {}, make([][]int, 0, 4)} {
			bothWays(t, api.Graph{Edges: edges}, lists, nil)
			bothWays(t, api.Graph{Edges: edges}, nil, lists)
			if len(rot.Canon(lists)) != 0 || len(rot.Mirror(lists)) != 0 {
				t.Error("R4: no lists")
			}
			refused(t, api.Graph{N: 1, Edges: edges}, lists, 0, api.ErrRotLength)
		}
		for _, lists := range [][][]int{{nil, nil, nil}, {{}, {}, {}}, {nil, {}, make([]int, 0, 3)}} {
			bothWays(t, api.Graph{N: 3, Edges: edges}, lists, make([][]int, 3))
			bothWays(t, api.Graph{N: 3, Edges: edges}, make([][]int, 3), lists)
			turnsAgree(t, lists)
			if !rot.Same(lists, make([][]int, 3)) || !rot.Same(make([][]int, 3), lists) || rot.Same(lists, nil) {
				t.Errorf("R4: Same of %v", lists)
			}
		}
	}
	g := probe.With(4, api.Edge{U: 1, V: 3})
	for _, empty := range [][]int{nil, {}, make([]int, 0, 3)} {
		bothWays(t, g, api.Rotation{empty, {0}, empty, {1}}, [][]int{nil, {3}, nil, {1}}, 0, 1)
		bothWays(t, g, api.Rotation{nil, {0}, nil, {1}}, [][]int{empty, {3}, empty, {1}}, 0, 1)
		refused(t, g, api.Rotation{empty, {0}, empty, empty}, 3, api.ErrRotMissing)
		sentBack(t, g, [][]int{empty, empty, empty, {1}}, 1, api.ErrRotMissing)
	}
}

const spare = -99

// packed: the same lists as pieces of one array, some room between them: what is appended to one of them writes over the others.
func packed(lists [][]int) (pieces [][]int, array []int) {
	for _, list := range lists {
		array = append(append(array, list...), spare, spare)
	}
	at := 0
	for _, list := range lists {
		pieces = append(pieces, array[at:at+len(list)])
		at += len(list) + 2
	}
	return pieces, array
}

// handed is what is handed in, with its spare room.
type handed struct {
	g     api.Graph
	lists [][]int
	edges []api.Edge
	array []int
	outer [][]int
}

func handing(g api.Graph, lists [][]int) handed {
	x := handed{g: g}
	pieces, array := packed(lists)
	x.array = array
	x.g.Edges, x.edges = probe.Roomy(g.Edges, api.Edge{U: 0, V: 1})
	x.lists, x.outer = probe.Roomy(pieces, array)
	return x
}

// same: with the room of all lists, and each list still the same piece.
func (x handed) same(y handed) bool {
	return slices.Equal(x.edges, y.edges) && slices.Equal(x.array, y.array) && probe.SameLists(x.outer, y.outer)
}

// askAll makes all calls, whatever they answer.
func askAll(x handed) {
	rot.Check(x.g, x.lists)
	rot.Canon(x.lists)
	rot.Mirror(x.lists)
	rot.Next(x.g, x.lists)
	rot.Around(x.g, x.lists)
	rot.From(x.g, x.lists)
	rot.Same(x.lists, x.lists)
	rot.Same(x.lists, probe.CopyLists(x.lists))
}

// thrown: graphs with rotations of them.
func thrown() []turned {
	d := probe.Dice(1112)
	var all []turned
	for _, g := range []api.Graph{tail(), probe.Complete(5), probe.Path(4), probe.Star(6, 2), probe.With(3), probe.With(0), probe.Beside(probe.Wheel(4), probe.With(2), probe.Cycle(3))} {
		all = append(all, turned{g, d.Rotation(g)})
	}
	for range 80 {
		g := d.Graph(1+d.Below(9), d.Below(101))
		all = append(all, turned{g, d.Rotation(g)})
	}
	return all
}

// TestArgumentsUnchanged: R5, P11.5: with their spare room; of rotations, of vertices round vertices, of lists and graphs that are refused.
func TestArgumentsUnchanged(t *testing.T) {
	d := probe.Dice(1113)
	for _, c := range thrown() {
		around := slowAround(c.g, c.r)
		all := [][][]int{c.r, around, around[:c.g.N/2], thrownLists(&d)}
		if c.g.N > 0 {
			numbers := append(probe.Rising(2*len(c.g.Edges)), -1)
			all = append(all, spoiled(&d, c.r, numbers), spoiled(&d, around, numbers))
		}
		for _, lists := range all {
			for _, g := range []api.Graph{c.g, {N: c.g.N, Edges: append([]api.Edge{{U: 1, V: 1}}, c.g.Edges...)}} {
				x, before := handing(g, lists), handing(g, lists)
				askAll(x)
				if !x.same(before) {
					t.Fatalf("R5: P11.5: handed in was %+v, it is now %+v", before, x)
				}
			}
		}
	}
}

// ownMemory: what make answers is want. Each of its lists is written over and appended to, with its spare room, then the list of them: what was handed in is as it was, so are the answer's other lists, and so are another answer and the next one.
func ownMemory(t *testing.T, what string, x handed, want [][]int, make func() [][]int) {
	t.Helper()
	before := handed{edges: slices.Clone(x.edges), array: slices.Clone(x.array), outer: probe.CopyLists(x.outer)}
	other := make()
	for v := range want {
		answer := make()
		probe.Spoil(answer[v], -7)
		answer[v] = want[v]
		if !probe.SameLists(answer, want) {
			t.Fatalf("R5: P11.5: %s: the list of %d written over, and the answer is %v, want %v", what, v, answer, want)
		}
	}
	probe.Spoil(make(), []int{-7})
	if again := make(); !probe.SameLists(other, want) || !probe.SameLists(again, want) {
		t.Fatalf("R5: P11.5: %s: one answer written over, and others are %v, %v, want %v", what, other, again, want)
	}
	if !x.same(before) {
		t.Fatalf("R5: P11.5: %s: the answer written over, and what was handed in is %+v, before %+v", what, x, before)
	}
}

func TestAnswersOwnMemory(t *testing.T) {
	for _, c := range thrown() {
		x, y := handing(c.g, c.r), handing(c.g, slowAround(c.g, c.r))
		var canon, mirror [][]int
		for _, list := range c.r {
			canon, mirror = append(canon, slowCanon(list)), append(mirror, slowMirror(list))
		}
		ownMemory(t, "Canon", x, canon, func() [][]int { return rot.Canon(x.lists) })
		ownMemory(t, "Canon of Canon", handing(c.g, canon), canon, func() [][]int { return rot.Canon(canon) })
		ownMemory(t, "Mirror", x, mirror, func() [][]int { return rot.Mirror(x.lists) })
		ownMemory(t, "Next", x, [][]int{slowNext(c.g, c.r)}, func() [][]int {
			next, _ := rot.Next(x.g, x.lists)
			return [][]int{next}
		})
		ownMemory(t, "Around", x, y.lists, func() [][]int {
			around, _ := rot.Around(x.g, x.lists)
			return around
		})
		ownMemory(t, "From", y, c.r, func() [][]int {
			r, _, _ := rot.From(y.g, y.lists)
			return r
		})
	}
}

// TestOneListManyTimes: lists that are handed in as one piece of memory are answered as several.
func TestOneListManyTimes(t *testing.T) {
	for _, list := range [][]int{{4, 2, 9}, {1}, {2, 2}, make([]int, 0, 5)} {
		lists := api.Rotation{list, list, list}
		x := handed{outer: lists}
		ownMemory(t, "Canon", x, rot.Canon(lists), func() [][]int { return rot.Canon(lists) })
		ownMemory(t, "Mirror", x, rot.Mirror(lists), func() [][]int { return rot.Mirror(lists) })
	}
	g := probe.Star(4, 0)
	zero := []int{0}
	around := [][]int{{2, 1, 3}, zero, zero, zero}
	ownMemory(t, "From", handed{outer: around}, api.Rotation{{2, 0, 4}, {1}, {3}, {5}}, func() [][]int {
		r, _, _ := rot.From(g, around)
		return r
	})
}

// TestNothingIsKept: what the caller writes later in what it has handed in is not to be seen in the answers, and is seen by the next call.
func TestNothingIsKept(t *testing.T) {
	g := tail()
	r := api.Rotation{{2, 0}, {1, 4}, {5, 6, 3}, {7}}
	next, around := accepted(t, g, r)
	names := probe.CopyLists(around)
	back := taken(t, g, names)
	canon, mirror := rot.Canon(r), rot.Mirror(r)
	r[2][0], r[2][1], r[0][0], r[0][1] = 6, 5, 0, 2
	names[2][0], names[2][1] = 3, 1
	r[3] = []int{8}
	if !slices.Equal(next, []int{2, 4, 0, 5, 1, 6, 3, 7}) || !probe.SameLists(around, [][]int{{2, 1}, {0, 2}, {1, 3, 0}, {2}}) {
		t.Errorf("R5: P11.5: the rotation written over, and Next is %v, Around %v", next, around)
	}
	if !probe.SameLists(canon, [][]int{{0, 2}, {1, 4}, {3, 5, 6}, {7}}) || !probe.SameLists(mirror, [][]int{{0, 2}, {1, 4}, {3, 6, 5}, {7}}) {
		t.Errorf("R5: P11.5: the rotation written over, and Canon is %v, Mirror %v", canon, mirror)
	}
	if !probe.SameLists(back, [][]int{{2, 0}, {1, 4}, {5, 6, 3}, {7}}) {
		t.Errorf("R5: P11.5: the vertices written over, and From is %v", back)
	}
	refused(t, g, r, 3, api.ErrRotHalf)
	r[3][0] = 7
	bothWays(t, g, r, [][]int{{1, 2}, {0, 2}, {3, 1, 0}, {2}}, 2, 4, 0, 6, 1, 3, 5, 7)
	if !probe.SameLists(taken(t, g, names), [][]int{{2, 0}, {1, 4}, {6, 5, 3}, {7}}) {
		t.Errorf("R8: the vertices written over: %v", taken(t, g, names))
	}
	g.Edges[3] = api.Edge{U: 1, V: 3} // half-edge 6 leaves 1 now
	refused(t, g, r, 1, api.ErrRotMissing)
	sentBack(t, g, names, 1, api.ErrRotMissing)
	g.Edges[3] = api.Edge{U: 3, V: 1}
	refused(t, g, r, 0, api.ErrGraph)
	sentBack(t, g, names, 0, api.ErrGraph)
}

// TestEarlierCalls: R8: what has been called before is not to be seen, calls that went wrong among it.
func TestEarlierCalls(t *testing.T) {
	all := thrown()
	for range 3 {
		for _, c := range slices.Concat(all, all) {
			refused(t, probe.With(2, api.Edge{U: 1, V: 0}), c.r, 0, api.ErrGraph)
			refused(t, tail(), api.Rotation{{0, 2}, {1, 4}, {3, 5, 5}, {7}}, 2, api.ErrRotTwice)
			sentBack(t, tail(), [][]int{{1, 2}, {0, 2}, {0, 1}, {2}}, 2, api.ErrRotMissing)
			slowly(c.g).rotationAgrees(t, c.r)
			turnsAgree(t, c.r)
			slowly(c.g).rotationAgrees(t, handing(c.g, c.r).lists)
		}
		slices.Reverse(all)
	}
}

// TestSideBySide: R8: calls at the same time, of the same lists, keep out of each other's way: also those that give up.
func TestSideBySide(t *testing.T) {
	all := thrown()
	wrong := make([]bool, 8)
	var workers sync.WaitGroup
	for worker := range wrong {
		workers.Go(func() {
			for _, c := range all {
				next, code := rot.Next(c.g, c.r)
				around, code2 := rot.Around(c.g, c.r)
				back, _, code3 := rot.From(c.g, around)
				if code != api.OK || code2 != api.OK || code3 != api.OK || !slices.Equal(next, slowNext(c.g, c.r)) || !probe.SameLists(back, c.r) || !rot.Same(rot.Canon(c.r), c.r) {
					wrong[worker] = true
				}
				faulty := append(probe.CopyLists(c.r), []int{worker})
				g := api.Graph{N: c.g.N + 1, Edges: c.g.Edges}
				if v, code := rot.Check(g, faulty); v != c.g.N || code != api.ErrRotHalf {
					wrong[worker] = true
				}
			}
		})
	}
	workers.Wait()
	if slices.Contains(wrong, true) {
		t.Error("R8: calls side by side answer something else")
	}
}
