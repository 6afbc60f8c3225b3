package planar_test

import (
	"math"
	"slices"
	"strings"
	"testing"

	"tangram/api"
	"tangram/planar"
	"tangram/probe"
)

func flat(lists ...[]int) api.Result {
	return api.Result{Verdict: api.Planar, Cert: api.Cert{Planar: true, Around: lists}}
}

// least: a result of edges, by their ends, two by two.
func least(ends ...int) api.Result { return leastOf(probe.OfEnds(0, ends...)) }

func leastOf(g api.Graph) api.Result {
	return api.Result{Verdict: api.NonPlanar, Cert: api.Cert{Edges: g.Edges}}
}

func rejected(code api.Errno, at int) api.Result {
	return api.Result{Verdict: api.Rejected, Reject: api.Reject{Code: code, At: at}}
}

func cancelled() api.Result { return api.Result{Verdict: api.Cancelled} }

func k4() api.Graph { return probe.Complete(4) }

func k5() api.Graph { return probe.Complete(5) }

func k33() api.Graph { return probe.TwoPart(3, 3) }

// same: lists without elements may be nil or empty.
func same(a, b api.Result) bool {
	return a.Verdict == b.Verdict && a.Reject == b.Reject && a.Cert.Planar == b.Cert.Planar && probe.SameLists(a.Cert.Around, b.Cert.Around) && slices.Equal(a.Cert.Edges, b.Cert.Edges)
}

// shown: a result short enough for a message.
func shown(r api.Result) api.Result {
	r.Cert.Around, r.Cert.Edges = slices.Clone(r.Cert.Around[:min(len(r.Cert.Around), 20)]), r.Cert.Edges[:min(len(r.Cert.Edges), 20)]
	for v, list := range r.Cert.Around {
		r.Cert.Around[v] = list[:min(len(list), 20)]
	}
	return r
}

func brief(text string) string { return text[:min(len(text), 200)] }

// lines: a text in which `|` stands for a line's end.
func lines(s string) string { return strings.ReplaceAll(s, "|", "\n") }

// decides: Decide answers just this.
func decides(t *testing.T, promise string, g api.Graph, want api.Result) {
	t.Helper()
	if got, code := planar.Decide(g); !same(got, want) || code != api.OK {
		t.Fatalf("%s: Decide(%v): %+v, %d, want %+v", promise, probe.Shown(g), shown(got), code, shown(want))
	}
}

// runs: Run and Output answer just this.
func runs(t *testing.T, promise, b string, want api.Result, text string) {
	t.Helper()
	if got := planar.Run([]byte(b)); !same(got, want) {
		t.Fatalf("%s: Run(%q): %+v, want %+v", promise, brief(b), shown(got), shown(want))
	}
	if got := string(planar.Output([]byte(b))); got != text {
		t.Fatalf("P19.3: Output(%q): %q, want %q", brief(b), brief(got), brief(text))
	}
}

// prints: Print answers just this.
func prints(t *testing.T, promise string, r api.Result, text string, want api.Errno) {
	t.Helper()
	if got, code := planar.Print(r); got != text || code != want {
		t.Fatalf("%s: Print(%+v): %q, %d, want %q, %d", promise, shown(r), brief(got), code, brief(text), want)
	}
}

// parses: ParseResult answers just this.
func parses(t *testing.T, promise, b string, want api.Result, at int, code api.Errno) {
	t.Helper()
	if got, gotAt, gotCode := planar.ParseResult([]byte(b)); !same(got, want) || gotAt != at || gotCode != code {
		t.Fatalf("%s: ParseResult(%q): %+v, %d, %d, want %+v, %d, %d", promise, brief(b), shown(got), gotAt, gotCode, shown(want), at, code)
	}
}

func TestExamples(t *testing.T) {
	for _, x := range []struct {
		b    string
		want api.Result
		text string
	}{
		{"3 2|0 1|1 2|", flat([]int{1}, []int{0, 2}, []int{1}), "p 3|1|0 2|1|"},
		{"3 3|0 1|1 2|2 0|", flat([]int{1, 2}, []int{0, 2}, []int{0, 1}), "p 3|1 2|0 2|0 1|"},
		{"2 1|0 2|", rejected(api.ErrVertex, 6), "rejected 24 6|"},
		{"0 0", flat(), "p 0|"},
		{"1 0", flat(nil), "p 1||"},
		{"3 0", flat(nil, nil, nil), "p 3||||"},
		{"2 3|1 0|0 1|1 1|", flat([]int{1}, []int{0}), "p 2|1|0|"},
		{"5 10|0 1|0 2|0 3|0 4|1 2|1 3|1 4|2 3|2 4|3 4|", leastOf(k5()), "n 10|0 1|0 2|0 3|0 4|1 2|1 3|1 4|2 3|2 4|3 4|"},
		{"5 11|4 3|4 2|4 1|4 0|3 2|3 1|3 0|2 1|2 0|1 0|2 2|", leastOf(k5()), "n 10|0 1|0 2|0 3|0 4|1 2|1 3|1 4|2 3|2 4|3 4|"},
		{"6 15|0 1|0 2|0 3|0 4|0 5|1 2|1 3|1 4|1 5|2 3|2 4|2 5|3 4|3 5|4 5|", least(1, 2, 1, 3, 1, 4, 1, 5, 2, 3, 2, 4, 2, 5, 3, 4, 3, 5, 4, 5), "n 10|1 2|1 3|1 4|1 5|2 3|2 4|2 5|3 4|3 5|4 5|"},
		{"7 10|0 3|0 4|0 6|6 5|1 3|1 4|1 5|2 3|2 4|2 5|", least(0, 3, 0, 4, 0, 6, 1, 3, 1, 4, 1, 5, 2, 3, 2, 4, 2, 5, 5, 6), "n 10|0 3|0 4|0 6|1 3|1 4|1 5|2 3|2 4|2 5|5 6|"},
	} {
		runs(t, "P19.2", lines(x.b), x.want, lines(x.text))
		parses(t, "P19.6", lines(x.text), x.want, 0, api.OK)
	}
	parses(t, "P19.5", "cancelled\n", cancelled(), 0, api.OK)
	parses(t, "P19.5", "rejected 024 6\n", api.Result{}, 0, api.ErrCertText)
	prints(t, "P19.4", api.Result{}, "", api.ErrRange)
}

// TestDecide: P19.1: graphs of which just one certificate is right.
func TestDecide(t *testing.T) {
	far := probe.OfEnds(9, 2, 7)
	tail := probe.OfEnds(4, 0, 1, 0, 2, 1, 2, 2, 3)
	spread := probe.Renamed(k33(), []int{0, 2, 9, 4, 7, 5})
	spread.N = 11
	for _, x := range []struct {
		g    api.Graph
		want api.Result
	}{
		{probe.With(0), flat()},
		{probe.With(2), flat(nil, nil)},
		{far, flat(nil, nil, []int{7}, nil, nil, nil, nil, []int{2}, nil)},
		{probe.Cycle(4), flat([]int{1, 3}, []int{0, 2}, []int{1, 3}, []int{0, 2})},
		{probe.Path(4), flat([]int{1}, []int{0, 2}, []int{1, 3}, []int{2})},
		{k5(), leastOf(k5())},
		{k33(), leastOf(k33())},
		{probe.Plus(k33(), [2]int{0, 1}), leastOf(k33())},
		{probe.Plus(k33(), [2]int{3, 4}, [2]int{4, 5}), leastOf(k33())},
		{probe.Divided(k5(), 0, 1), leastOf(probe.Divided(k5(), 0, 1))},
		{probe.Beside(k5(), k5()), leastOf(probe.Beside(probe.With(5), k5()))},
		{probe.Beside(k5(), k33(), k4()), leastOf(probe.Beside(probe.With(5), k33()))},
		{probe.Beside(k33(), k4()), leastOf(k33())},
		{spread, leastOf(spread)},
		{probe.Hung(k33(), 2, probe.Path(3), 0), leastOf(k33())},
	} {
		decides(t, "P19.1", x.g, x.want)
	}
	r, code := planar.Decide(tail)
	if code != api.OK || !slices.Equal(r.Cert.Around[2], []int{0, 1, 3}) && !slices.Equal(r.Cert.Around[2], []int{0, 3, 1}) {
		t.Errorf("P19.1: Decide(%v): %+v, %d", tail, r, code)
	}
}

// TestNotValid: P19.1: ErrGraph, and nothing beside it.
func TestNotValid(t *testing.T) {
	turned := k5()
	turned.Edges = slices.Clone(turned.Edges)
	slices.Reverse(turned.Edges)
	graphs := append(probe.Invalid(), turned, probe.With(4, k5().Edges...), probe.With(5, k33().Edges...), probe.With(-1, k5().Edges...), probe.With(api.MaxN+1, k5().Edges...))
	for _, g := range graphs {
		if r, code := planar.Decide(g); !same(r, api.Result{}) || code != api.ErrGraph {
			t.Errorf("P19.1: Decide(%v): %+v, %d", probe.Shown(g), shown(r), code)
		}
	}
}

// TestRejected: P19.2: one text for each reason of chapter 2, and the first reason where there are several.
func TestRejected(t *testing.T) {
	for _, x := range []struct {
		b    string
		code api.Errno
		at   int
	}{
		{"", api.ErrHeader, 0}, {"3|", api.ErrHeader, 0}, {"x", api.ErrByte, 0}, {"3 1|0 01|", api.ErrNumber, 6}, {"1048577 0", api.ErrN, 0}, {"1 2097153", api.ErrM, 2},
		{"3 1|0|", api.ErrPair, 4}, {"2 1|0 2|", api.ErrVertex, 6}, {"2 2|0 1|", api.ErrFew, 8}, {"2 1|0 1|0 1|", api.ErrMany, 8}, {"2 1|0 2|x", api.ErrByte, 8}, {"2 1|2 0|0 1|", api.ErrVertex, 4},
	} {
		b := lines(x.b)
		runs(t, "P19.2", b, rejected(x.code, x.at), "rejected "+number(int(x.code))+" "+number(x.at)+"\n")
	}
}

// TestPrint: P19.4: each kind of result, at the edges of what may be, and with what isn't looked at.
func TestPrint(t *testing.T) {
	for _, x := range []struct {
		r    api.Result
		text string
	}{
		{rejected(24, 6), "rejected 24 6|"}, {rejected(1, 0), "rejected 1 0|"}, {rejected(999999999, 999999999), "rejected 999999999 999999999|"}, {rejected(10, 16777216), "rejected 10 16777216|"},
		{cancelled(), "cancelled|"},
		{flat(), "p 0|"}, {flat([]int{1}, []int{0}), "p 2|1|0|"}, {flat([]int{4, 9, 4, 7}), "p 1|4 9 4 7|"}, {flat(nil), "p 1||"},
		{least(), "n 0|"}, {least(0, 1), "n 1|0 1|"}, {least(0, 1, 0, 4), "n 2|0 1|0 4|"},
	} {
		prints(t, "P19.4", x.r, lines(x.text), api.OK)
	}
	wrong := []api.Cert{{}, {Planar: true}, {Planar: true, Around: [][]int{{2, 1}}}, {Planar: true, Around: [][]int{{-1}}, Edges: []api.Edge{{U: 3, V: 2}}}, {Around: [][]int{{1}}}, {Edges: []api.Edge{{U: 3, V: 2}}}}
	for _, c := range wrong {
		r := rejected(24, 6)
		r.Cert = c
		prints(t, "P19.4", r, "rejected 24 6\n", api.OK)
		for _, reject := range []api.Reject{{}, {Code: 24, At: 6}, {Code: -1, At: -1}, {Code: math.MaxInt64, At: math.MinInt64}} {
			prints(t, "P19.4", api.Result{Verdict: api.Cancelled, Reject: reject, Cert: c}, "cancelled\n", api.OK)
			prints(t, "P19.4", api.Result{Verdict: api.Planar, Reject: reject, Cert: flat([]int{1}, []int{0}).Cert}, "p 2\n1\n0\n", api.OK)
			prints(t, "P19.4", api.Result{Verdict: api.NonPlanar, Reject: reject, Cert: least(0, 1).Cert}, "n 1\n0 1\n", api.OK)
		}
	}
}

// TestPrintRefuses: P19.4: each error, and which one where there are several.
func TestPrintRefuses(t *testing.T) {
	for _, x := range []struct{ code, at int }{
		{0, 0}, {0, 6}, {-1, 6}, {math.MinInt64, 0}, {1000000000, 6}, {math.MaxInt64, 0}, {24, -1}, {24, math.MinInt64}, {24, 1000000000}, {24, math.MaxInt64}, {1 << 32, 0}, {1<<32 + 24, 6}, {24, 1 << 32}, {0, -1},
	} {
		prints(t, "P19.4", rejected(api.Errno(x.code), x.at), "", api.ErrRange)
	}
	for _, v := range []api.Verdict{0, -1, 5, 6, math.MinInt64, math.MaxInt64, 1<<32 + 2, 1<<8 + 4} {
		for _, r := range []api.Result{rejected(24, 6), cancelled(), flat([]int{1}, []int{0}), least(0, 1), {}} {
			r.Verdict = v
			prints(t, "P19.4", r, "", api.ErrRange)
		}
	}
	for _, c := range []api.Cert{{}, {Edges: k5().Edges}, {Around: [][]int{{1}}}, {Edges: []api.Edge{{U: 1, V: 0}}}} {
		prints(t, "P19.4", api.Result{Verdict: api.Planar, Cert: c}, "", api.ErrRange)
	}
	for _, c := range []api.Cert{{Planar: true}, {Planar: true, Around: [][]int{{1}, {0}}}, {Planar: true, Edges: k5().Edges}, {Planar: true, Around: [][]int{{2, 1}}}} {
		prints(t, "P19.4", api.Result{Verdict: api.NonPlanar, Cert: c}, "", api.ErrRange)
	}
	for _, r := range []api.Result{
		flat([]int{2, 1}), flat([]int{-1}), flat([]int{1000000000}), {Verdict: api.Planar, Cert: api.Cert{Planar: true, Edges: k5().Edges}},
		least(1, 0), least(0, 0), least(-1, 0), least(0, 1, 0, 1), least(0, 1000000000), {Verdict: api.NonPlanar, Cert: api.Cert{Around: [][]int{nil}}},
	} {
		prints(t, "P19.4", r, "", api.ErrCertText)
	}
}

// TestParse: P19.5: texts without a certificate, and such as look like one; the others are cert's.
func TestParse(t *testing.T) {
	parses(t, "P19.5", "rejected 24 6\n", rejected(24, 6), 0, api.OK)
	parses(t, "P19.5", "rejected 1 0\n", rejected(1, 0), 0, api.OK)
	parses(t, "P19.5", "rejected 999999999 999999999\n", rejected(999999999, 999999999), 0, api.OK)
	parses(t, "P19.5", "cancelled\n", cancelled(), 0, api.OK)
	for _, b := range []string{
		"r", "c", "rejected", "rejected ", "rejected 24", "rejected 24 ", "rejected 24 6", "rejected 24 6 |", "rejected 24 6||", "rejected 24 6|x", "rejected 24 6|rejected 24 6|", "rejected 24 6\r|", "rejected 24\t6|", "rejected\t24 6|", "rejected 24  6|", "rejected  24 6|",
		"rejected 0 6|", "rejected 00 6|", "rejected 024 6|", "rejected 24 06|", "rejected 24 00|", "rejected -24 6|", "rejected 24 -6|", "rejected +24 6|", "rejected 24 +6|", "rejected 24 -0|", "rejected 1000000000 6|", "rejected 24 1000000000|", "rejected 18446744073709551640 6|", "rejected 24 18446744073709551622|",
		"rejected 24 6.0|", "rejected 0x18 6|", "rejected 2_4 6|", "rejected 24|", "rejected 24|6|", "rejected 24 6 7|", "rejected  |", "rejected |", "rejected|", "rejected24 6|", "rejecte 24 6|", "rejectedcancelled|", "r p 0|", "reject 24 6|",
		"cancelled", "cancelled||", "cancelled |", "cancelled 24 6|", "cancelled|cancelled|", "canceled|", "cancelle|", "cancelled\r|", "cp 0|", "c 0|", "rejected cancelled|", "cancelledrejected 24 6|",
	} {
		parses(t, "P19.5", lines(b), api.Result{}, 0, api.ErrCertText)
	}
	for _, x := range []struct {
		b  string
		at int
	}{
		{"", 0}, {"q", 0}, {" rejected 24 6|", 0}, {"|cancelled|", 0}, {"Rejected 24 6|", 0}, {"CANCELLED|", 0}, {"R", 0}, {"C", 0}, {"p", 1}, {"n", 1}, {"planar|", 1}, {"nonplanar|", 1}, {"p 0", 3}, {"p 0||", 4}, {"p 01||", 2}, {"p  1||", 2}, {"p 1048577|", 2}, {"p 1|3 1|", 6}, {"n 1|3 1|", 6}, {"n 2|0 2|0 1|", 8}, {"p 0|cancelled|", 4}, {"0", 0},
	} {
		parses(t, "P19.5", lines(x.b), api.Result{}, x.at, api.ErrCertText)
	}
	parses(t, "P19.5", "p 1\n4 9 4 7\n", flat([]int{4, 9, 4, 7}), 0, api.OK)
	parses(t, "P19.5", "p 3\n1\n0\n\n", flat([]int{1}, []int{0}, nil), 0, api.OK)
	parses(t, "P19.5", "n 2\n0 1\n0 4\n", least(0, 1, 0, 4), 0, api.OK)
	parses(t, "P19.5", "n 0\n", least(), 0, api.OK)
}

// TestKnownGraphs: P5: what everybody knows.
func TestKnownGraphs(t *testing.T) {
	for _, x := range probe.KnownGraphs() {
		want := api.NonPlanar
		if x.Planar {
			want = api.Planar
		}
		if got := rightly(t, x.Graph); got.Verdict != want {
			t.Errorf("P5: %s: %+v", x.Name, shown(got))
		}
	}
}
