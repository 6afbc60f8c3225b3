package planar_test

import (
	"bytes"
	"slices"
	"sync"
	"testing"

	"tangram/api"
	"tangram/planar"
	"tangram/probe"
)

// copied: a result that shares nothing with the first.
func copied(r api.Result) api.Result {
	r.Cert.Around, r.Cert.Edges = probe.CopyLists(r.Cert.Around), slices.Clone(r.Cert.Edges)
	return r
}

// spoil writes over all that a result has, spare room too.
func spoil(r api.Result) {
	for _, list := range r.Cert.Around {
		probe.Spoil(list, -7)
	}
	probe.Spoil(r.Cert.Around, []int{-7})
	probe.Spoil(r.Cert.Edges, api.Edge{U: -7, V: -7})
}

// many: graphs with their results; planar ones and others.
func many(t *testing.T, d *probe.Dice) ([]api.Graph, []api.Result) {
	t.Helper()
	graphs := []api.Graph{probe.With(0), probe.With(3), probe.Path(3), k4(), k5(), k33(), probe.Complete(6)}
	for range 100 {
		graphs = append(graphs, thrownGraph(d))
	}
	var results []api.Result
	for _, g := range graphs {
		results = append(results, copied(rightly(t, g)))
	}
	return graphs, results
}

// TestNilAndEmpty: R4.
func TestNilAndEmpty(t *testing.T) {
	for _, edges := range [][]api.Edge{nil, {}, make([]api.Edge, 0, 4)} {
		decides(t, "R4", api.Graph{N: 0, Edges: edges}, flat())
		decides(t, "R4", api.Graph{N: 2, Edges: edges}, flat(nil, nil))
		for _, around := range [][][]int{nil, {}, make([][]int, 0, 4)} {
			prints(t, "R4", api.Result{Verdict: api.Planar, Cert: api.Cert{Planar: true, Around: around, Edges: edges}}, "p 0\n", api.OK)
			prints(t, "R4", api.Result{Verdict: api.NonPlanar, Cert: api.Cert{Around: around, Edges: edges}}, "n 0\n", api.OK)
			prints(t, "R4", api.Result{Verdict: api.Cancelled, Cert: api.Cert{Around: around, Edges: edges}}, "cancelled\n", api.OK)
			prints(t, "R4", api.Result{Verdict: api.NonPlanar, Cert: api.Cert{Around: around, Edges: k33().Edges[:1]}}, "n 1\n0 3\n", api.OK)
		}
		for _, empty := range [][]int{nil, {}, make([]int, 0, 4)} {
			prints(t, "R4", api.Result{Verdict: api.Planar, Cert: api.Cert{Planar: true, Around: [][]int{empty, {0}}, Edges: edges}}, "p 2\n\n0\n", api.OK)
		}
	}
	for _, b := range [][]byte{nil, {}, make([]byte, 0, 4)} {
		if r := planar.Run(b); !same(r, rejected(api.ErrHeader, 0)) || string(planar.Output(b)) != "rejected 20 0\n" {
			t.Errorf("R4: %+v", r)
		}
		if r, at, code := planar.ParseResult(b); !same(r, api.Result{}) || at != 0 || code != api.ErrCertText {
			t.Errorf("R4: %+v, %d, %d", r, at, code)
		}
	}
}

// TestGraphUnchanged: R5: with the room behind its edges; where it is refused, too.
func TestGraphUnchanged(t *testing.T) {
	d := probe.Dice(1909)
	graphs, _ := many(t, &d)
	for _, g := range append(graphs, probe.Invalid()...) {
		list, whole := probe.Roomy(g.Edges, api.Edge{U: -9, V: -9})
		before := slices.Clone(whole)
		planar.Decide(api.Graph{N: g.N, Edges: list})
		if !slices.Equal(whole, before) {
			t.Fatalf("R5: Decide(%v) has changed its edges: %v", probe.Shown(g), probe.Shown(api.Graph{Edges: whole}))
		}
	}
}

// TestBytesUnchanged: R5: with the room behind them.
func TestBytesUnchanged(t *testing.T) {
	d := probe.Dice(1910)
	for range 300 {
		text := marred(&d, textOf(&d, thrownGraph(&d)))
		for _, b := range []string{text, string(planar.Output([]byte(text))), "cancelled\n", "rejected 24 06\n"} {
			whole := []byte(b + " 1\n2")
			before := bytes.Clone(whole)
			planar.Run(whole[:len(b)])
			planar.Output(whole[:len(b)])
			planar.ParseResult(whole[:len(b)])
			if !bytes.Equal(whole, before) {
				t.Fatalf("R5: %q has been changed: %q", before, whole)
			}
		}
	}
}

// TestResultUnchanged: R5: of Print.
func TestResultUnchanged(t *testing.T) {
	d := probe.Dice(1911)
	_, results := many(t, &d)
	results = append(results, flat([]int{2, 1}, []int{-1}), least(0, 1, 0, 1), cancelled(), rejected(24, 6), rejected(0, 0))
	for _, r := range results {
		for _, v := range []api.Verdict{r.Verdict, api.Rejected, api.Cancelled, api.Planar, api.NonPlanar} {
			x := copied(r)
			x.Verdict = v
			before := copied(x)
			edges, whole := probe.Roomy(x.Cert.Edges, api.Edge{U: -9, V: -9})
			x.Cert.Edges = edges
			room := slices.Clone(whole)
			planar.Print(x)
			if !same(x, before) || !slices.Equal(whole, room) {
				t.Fatalf("R5: Print has changed %+v: %+v", before, x)
			}
		}
	}
}

// TestAnswersAreNew: R5, R8: what the caller writes into an answer, or into what was handed in, is seen by no other answer.
func TestAnswersAreNew(t *testing.T) {
	d := probe.Dice(1912)
	graphs, results := many(t, &d)
	for i, g := range graphs {
		edges := slices.Clone(g.Edges)
		first, _ := planar.Decide(api.Graph{N: g.N, Edges: edges})
		second, _ := planar.Decide(api.Graph{N: g.N, Edges: edges})
		spoil(first)
		if !slices.Equal(edges, g.Edges) || !same(second, results[i]) {
			t.Fatalf("R5: %v: an answer shares its memory", g)
		}
		probe.Spoil(edges, api.Edge{U: -7, V: -7})
		if !same(second, results[i]) {
			t.Fatalf("R5: %v: an answer keeps the edges", g)
		}
		decides(t, "R8", g, results[i])
	}
}

// TestTextsAreNew: R5, R8: the same of Run, Output and ParseResult.
func TestTextsAreNew(t *testing.T) {
	d := probe.Dice(1913)
	graphs, results := many(t, &d)
	for i, g := range graphs {
		b := []byte(textOf(&d, g))
		first, second, out := planar.Run(b), planar.Run(b), planar.Output(b)
		said := string(out)
		read, _, _ := planar.ParseResult(out)
		again, _, _ := planar.ParseResult(out)
		spoil(first)
		spoil(read)
		probe.Spoil(b, 'x')
		if string(out) != said {
			t.Fatalf("R5: %v: Output shares its memory", g)
		}
		probe.Spoil(out, 'x')
		if !same(second, results[i]) || !same(again, results[i]) {
			t.Fatalf("R5: %v: an answer shares its memory", g)
		}
		parses(t, "R8", said, results[i], 0, api.OK)
	}
}

// TestListsApart: R5: no two lists of an answer share memory, spare room included.
func TestListsApart(t *testing.T) {
	d := probe.Dice(1914)
	graphs, results := many(t, &d)
	for i, g := range graphs {
		text, _ := planar.Print(results[i])
		decided, _ := planar.Decide(g)
		read, _, _ := planar.ParseResult([]byte(text))
		for _, r := range []api.Result{decided, read} {
			for v, list := range r.Cert.Around {
				probe.Spoil(list, -7)
				for w := v + 1; w < len(r.Cert.Around); w++ {
					if !slices.Equal(r.Cert.Around[w], results[i].Cert.Around[w]) {
						t.Fatalf("R5: %v: the lists of %d and %d share memory", g, v, w)
					}
				}
			}
		}
	}
}

// TestEarlierCalls: R8: what has been called before is not to be seen.
func TestEarlierCalls(t *testing.T) {
	d := probe.Dice(1915)
	graphs, results := many(t, &d)
	for range 3 {
		for i, g := range graphs {
			decides(t, "R8", g, results[i])
			decides(t, "R8", g, results[i])
		}
		slices.Reverse(graphs)
		slices.Reverse(results)
	}
}

// TestSideBySide: R8: calls at the same time, of the same graphs, keep out of each other's way.
func TestSideBySide(t *testing.T) {
	d := probe.Dice(1916)
	graphs, results := many(t, &d)
	var texts []string
	for _, g := range graphs {
		texts = append(texts, textOf(&d, g))
	}
	wrong := make([]bool, 8)
	var workers sync.WaitGroup
	for worker := range wrong {
		workers.Go(func() {
			for i, g := range graphs {
				r, code := planar.Decide(g)
				wrong[worker] = wrong[worker] || code != api.OK || !same(r, results[i]) || !same(planar.Run([]byte(texts[i])), results[i])
			}
		})
	}
	workers.Wait()
	if slices.Contains(wrong, true) {
		t.Error("R8: calls side by side answer something else")
	}
}
