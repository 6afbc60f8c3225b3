package edit_test

import (
	"slices"
	"sync"
	"testing"

	"tangram/api"
	"tangram/probe"
)

// TestNilAndEmpty: R4: a list without elements may be nil or empty, of edges and of numbers.
func TestNilAndEmpty(t *testing.T) {
	for _, edges := range [][]api.Edge{nil, {}, make([]api.Edge, 0, 4)} {
		none, three := api.Graph{Edges: edges}, api.Graph{N: 3, Edges: edges}
		for _, list := range [][]int{nil, {}, make([]int, 0, 4)} {
			sub(none, list...).says(t, graph(0))
			sub(three, list...).says(t, graph(3))
			sub(example(), list...).says(t, graph(4))
			relabel(none, list...).says(t, graph(0))
			relabel(three, list...).says(t, fault(api.ErrRange))
			induced(none, list...).says(t, graph(0))
			induced(three, list...).says(t, graph(0))
			induced(example(), list...).says(t, graph(0))
		}
		with(three, 0, 2).says(t, graph(3, 0, 2))
		beside(none, three).says(t, graph(3))
		beside(three, example()).says(t, graph(7, 3, 4, 3, 5, 4, 5))
		apex(none).says(t, graph(1))
		apex(three).says(t, graph(4, 0, 3, 1, 3, 2, 3))
		bare(three).says(t, graph(0))
		induced(three, 2, 0).says(t, graph(2))
	}
}

// handed is what is handed in, with its spare room.
type handed struct {
	g, other     api.Graph
	edges, more  []api.Edge
	keep, order  []int
	keeps, names []int
}

func handing(g, other api.Graph, keep, order []int) handed {
	x := handed{g: g, other: other}
	x.g.Edges, x.edges = probe.Roomy(g.Edges, api.Edge{U: 0, V: 1})
	x.other.Edges, x.more = probe.Roomy(other.Edges, api.Edge{U: 1, V: 2})
	x.keep, x.keeps = probe.Roomy(keep, -99)
	x.order, x.names = probe.Roomy(order, -98)
	return x
}

// copied: the same numbers, to be held against later.
func (x handed) copied() handed {
	return handed{edges: slices.Clone(x.edges), more: slices.Clone(x.more), keeps: slices.Clone(x.keeps), names: slices.Clone(x.names)}
}

func (x handed) same(y handed) bool {
	return slices.Equal(x.edges, y.edges) && slices.Equal(x.more, y.more) && slices.Equal(x.keeps, y.keeps) && slices.Equal(x.names, y.names)
}

// spoil writes over all that was handed in.
func (x handed) spoil() {
	probe.Spoil(x.edges, api.Edge{U: -7, V: -7})
	probe.Spoil(x.more, api.Edge{U: -7, V: -7})
	probe.Spoil(x.keeps, -7)
	probe.Spoil(x.names, -7)
}

// calls: all of them with what is handed in, right ones and wrong ones.
func (x handed) calls() []call {
	m := len(x.g.Edges)
	all := []call{
		sub(x.g, x.keep...), sub(x.g, x.order...), sub(x.g),
		relabel(x.g, x.order...), relabel(x.g, x.keep...), relabel(x.g, x.order[:len(x.order)/2]...),
		induced(x.g, x.order...), induced(x.g, x.keep...), induced(x.g, x.order[:len(x.order)/2]...), induced(x.g),
		beside(x.g, x.other), beside(x.other, x.g), beside(x.g, x.g),
		apex(x.g), bare(x.g),
	}
	for _, e := range []int{-1, 0, m / 2, m - 1, m} {
		all = append(all, without(x.g, e), divide(x.g, e))
	}
	for _, v := range []int{1, x.g.N / 2, x.g.N - 1, x.g.N} {
		all = append(all, with(x.g, 0, v), with(x.g, v/2, v))
	}
	return all
}

// hands: what is handed in, right and wrong, of small graphs and thrown ones.
func hands() []handed {
	d := probe.Dice(1411)
	var all []handed
	last := example()
	for round, g := range append(thrown(&d, 40), example(), probe.With(0), probe.With(1), probe.With(5), probe.Cycle(5), probe.OfEnds(9, 2, 6)) {
		all = append(all, handing(g, last, numbers(&d, len(g.Edges), d.Below(2*len(g.Edges)+1)), probe.Mixed(&d, probe.Rising(g.N))))
		if round%5 == 4 {
			reversed := api.Graph{N: g.N, Edges: slices.Clone(g.Edges)}
			slices.Reverse(reversed.Edges)
			all = append(all, handing(reversed, g, probe.Rising(3), probe.Rising(g.N)))
		}
		last = g
	}
	return all
}

// copied: an answer in memory of its own.
func (a answer) copied() answer {
	return answer{api.Graph{N: a.g.N, Edges: slices.Clone(a.g.Edges)}, slices.Clone(a.list), a.code}
}

// TestArgumentsUnchanged: R5, P14.6: with their spare room; of graphs and lists that are refused, too.
func TestArgumentsUnchanged(t *testing.T) {
	for _, x := range hands() {
		before := x.copied()
		for _, c := range x.calls() {
			c.ask()
			if !x.same(before) {
				t.Fatalf("P14.6: R5: %s%v: what was handed in is now %+v, before %+v", c.what, c.args, x, before)
			}
		}
	}
}

// TestAnswersOwnMemory: R5, P14.6: each list of an answer is written over and appended to, with its spare room: what was handed in is as it was, and so are the answer's other list, an answer from before, and the next one.
func TestAnswersOwnMemory(t *testing.T) {
	for _, x := range hands() {
		before := x.copied()
		for _, c := range x.calls() {
			earlier := c.ask()
			want := earlier.copied()
			first, second := c.ask(), c.ask()
			probe.Spoil(first.g.Edges, api.Edge{U: -7, V: -7})
			probe.Spoil(second.list, -7)
			if !x.same(before) {
				t.Fatalf("P14.6: R5: %s%v: the answer written over, and what was handed in is %+v, before %+v", c.what, c.args, x, before)
			}
			if !slices.Equal(first.list, want.list) || !slices.Equal(second.g.Edges, want.g.Edges) || !same(earlier, want) || !same(c.ask(), want) {
				t.Fatalf("P14.6: R5: %s%v: one list written over, and others are %v, %v, %v, want %v", c.what, c.args, first.list, second.g, earlier, want)
			}
		}
	}
}

// TestNothingIsKept: R5, P14.6: what the caller writes later in what it has handed in is not to be seen in the answers, and is seen by the next call.
func TestNothingIsKept(t *testing.T) {
	for _, x := range hands() {
		var answers, copies []answer
		for _, c := range x.calls() {
			got := c.ask()
			answers, copies = append(answers, got), append(copies, got.copied())
		}
		calls := x.calls()
		x.spoil()
		for i, c := range calls {
			if !same(answers[i], copies[i]) {
				t.Fatalf("P14.6: R5: %s%v: what was handed in written over, and the answer is %v, before %v", c.what, c.args, answers[i], copies[i])
			}
			if len(x.g.Edges) > 0 {
				c.says(t, fault(api.ErrGraph))
			}
		}
	}
}

// TestSharedArguments: one piece of memory handed in as two arguments, and two graphs as pieces of one list.
func TestSharedArguments(t *testing.T) {
	g := probe.Complete(6)
	beside(g, g).says(t, slowBeside(g, g))
	for m := range len(g.Edges) + 1 {
		a, b := api.Graph{N: 6, Edges: g.Edges[:m]}, api.Graph{N: 6, Edges: g.Edges[m:]}
		beside(a, b).says(t, slowBeside(a, b))
		beside(b, a).says(t, slowBeside(b, a))
		for u := range 6 {
			for v := u + 1; v < 6; v++ {
				with(a, u, v).says(t, slowWith(a, u, v))
			}
		}
		apex(a).says(t, slowApex(a))
		equal(t, "P14.6: the list that was handed in by pieces", g, probe.Complete(6))
	}
}

// TestEarlierCalls: R8: what has been called before is not to be seen, calls that went wrong among it.
func TestEarlierCalls(t *testing.T) {
	var calls []call
	for _, x := range hands() {
		calls = append(calls, x.calls()...)
	}
	var answers []answer
	for _, c := range calls {
		answers = append(answers, c.ask())
	}
	for range 2 {
		for i, c := range slices.Backward(calls) {
			with(probe.OfEnds(2, 1, 0), 0, 1).says(t, fault(api.ErrGraph))
			relabel(example(), 0, 1, 1, 2).says(t, fault(api.ErrRange))
			c.says(t, answers[i])
		}
	}
}

// TestSideBySide: R8: calls at the same time, of the same lists, keep out of each other's way.
func TestSideBySide(t *testing.T) {
	var calls []call
	var answers []answer
	for _, x := range hands() {
		for _, c := range x.calls() {
			calls, answers = append(calls, c), append(answers, c.ask())
		}
	}
	wrong := make([]bool, 8)
	var workers sync.WaitGroup
	for worker := range wrong {
		workers.Go(func() {
			for i, c := range calls {
				if !same(c.ask(), answers[i]) {
					wrong[worker] = true
				}
			}
		})
	}
	workers.Wait()
	if slices.Contains(wrong, true) {
		t.Error("R8: calls side by side answer something else")
	}
}
