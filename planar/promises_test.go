package planar_test

import (
	"slices"
	"strings"
	"testing"

	"tangram/api"
	"tangram/cert"
	"tangram/check"
	"tangram/extract"
	"tangram/faces"
	"tangram/kura"
	"tangram/lr"
	"tangram/nums"
	"tangram/planar"
	"tangram/probe"
	"tangram/rot"
	"tangram/simple"
)

func isPlanar(g api.Graph) bool {
	yes, code := lr.Planar(g)
	return yes && code == api.OK
}

// rightly: P19.1, P4, P5, P7: Decide's answer, held against the layers below.
func rightly(t *testing.T, g api.Graph) api.Result {
	t.Helper()
	r, code := planar.Decide(g)
	want := leastOf(api.Graph{Edges: r.Cert.Edges})
	if isPlanar(g) {
		want = flat(r.Cert.Around...)
	}
	if code != api.OK || !same(r, want) {
		t.Fatalf("P19.1: Decide(%v): %+v, %d", probe.Shown(g), shown(r), code)
	}
	if r.Verdict == api.Planar {
		isRotation(t, g, r.Cert.Around)
	} else {
		isSmallest(t, g, r.Cert.Edges)
	}
	return r
}

// isRotation: P4: a flat rotation, each list beginning with its least neighbour.
func isRotation(t *testing.T, g api.Graph, around [][]int) {
	t.Helper()
	r, _, code := rot.From(g, around)
	if code != api.OK || !faces.Flat(g, r) || !probe.SameLists(r, rot.Canon(r)) {
		t.Fatalf("P4: round %v stand %v", probe.Shown(g), shown(flat(around...)).Cert.Around)
	}
	for v, list := range around {
		if len(list) > 0 && slices.Min(list) != list[0] {
			t.Fatalf("P19.1: round %d of %v: %v", v, probe.Shown(g), list)
		}
	}
}

// isSmallest: P4, P19.1: a subdivision, by the edges whose numbers extract.Minimal answers.
func isSmallest(t *testing.T, g api.Graph, edges []api.Edge) {
	t.Helper()
	numbers, _ := extract.Minimal(g)
	want := make([]api.Edge, len(numbers))
	for i, e := range numbers {
		want[i] = g.Edges[e]
	}
	_, is, code := kura.Recognise(probe.With(g.N, edges...))
	if !slices.Equal(edges, want) || !is || code != api.OK {
		t.Fatalf("P19.1: of %v is left %v, want %v", probe.Shown(g), edges, want)
	}
}

// textOf: bytes that say the graph: its edges in any order, ends changed about, loops and doubles put between, blanks and lines without numbers too.
func textOf(d *probe.Dice, g api.Graph) string {
	pairs := d.Disorder(g)
	var text strings.Builder
	write := func(a, b int) {
		text.WriteString(strings.Repeat("\n", d.Below(4)/3) + strings.Repeat(" ", d.Below(4)/3) + strings.Replace(nums.Line(a, b), " ", strings.Repeat("\t ", 1+d.Below(4)/3), 1))
	}
	write(g.N, len(pairs))
	for _, p := range pairs {
		write(p[0], p[1])
	}
	return text.String() + strings.Repeat(" \r\n", d.Below(4)/3)
}

// thrownGraph: few vertices, planar or not.
func thrownGraph(d *probe.Dice) api.Graph {
	switch d.Below(6) {
	case 0:
		return d.Graph(d.Below(9), d.Below(101))
	case 1:
		return d.Renamed(probe.DividedAll(k5(), d.Below(3)))
	case 2:
		return d.Renamed(probe.Divided(k33(), d.Below(9), d.Below(4)))
	case 3:
		return d.Triangles(3+d.Below(12), d.Below(20))
	case 4:
		return d.Part(d.Triangles(5+d.Below(9), d.Below(20)), d.Below(60))
	}
	return d.Renamed(probe.Beside(d.Graph(d.Below(4), 60), k33(), d.Graph(d.Below(5), 80)))
}

// TestSmallAndThrown: P19.1, P4, P5.
func TestSmallAndThrown(t *testing.T) {
	for _, g := range probe.Small() {
		rightly(t, g)
	}
	d := probe.Dice(1901)
	with := make(map[api.Verdict]int)
	for range 4000 {
		with[rightly(t, thrownGraph(&d)).Verdict]++
	}
	if with[api.Planar] < 1000 || with[api.NonPlanar] < 1000 {
		t.Errorf("so many verdicts of each kind: %v", with)
	}
}

// TestSmallest: P5: without any one of its edges the part is planar, and it isn't with all of them.
func TestSmallest(t *testing.T) {
	d := probe.Dice(1902)
	for range 600 {
		n := 5 + d.Below(12)
		g := d.Renamed(probe.Plus(d.Triangles(n, 30), d.Pairs(n, 9)...))
		r, _ := planar.Decide(g)
		part := probe.With(g.N, r.Cert.Edges...)
		if r.Verdict == api.Planar {
			continue
		}
		if isPlanar(part) {
			t.Fatalf("P5: of %v is left %v", g, r.Cert.Edges)
		}
		for e := range part.Edges {
			if !isPlanar(probe.Without(part, e)) {
				t.Fatalf("P5: of %v is left %v, without %v still not planar", g, part.Edges, part.Edges[e])
			}
		}
	}
}

// TestOneOutput: P19.2, P19.7, P6: whatever bytes say a graph, what comes of it is what Decide says of it; other graphs' certificates aren't theirs.
func TestOneOutput(t *testing.T) {
	d := probe.Dice(1903)
	for range 1500 {
		g := thrownGraph(&d)
		want, _ := planar.Decide(g)
		text, code := planar.Print(want)
		if code != api.OK {
			t.Fatalf("P19.4: Print(%+v): %d", want, code)
		}
		tidy, _ := simple.Text(g)
		runs(t, "P19.7", tidy, want, text)
		for range 4 {
			runs(t, "P19.7", textOf(&d, g), want, text)
		}
	}
}

// TestThereAndBack: P19.6, P6: of bytes that are rejected, too.
func TestThereAndBack(t *testing.T) {
	d := probe.Dice(1904)
	with := make(map[api.Verdict]int)
	for range 4000 {
		r := runsRightly(t, marred(&d, textOf(&d, thrownGraph(&d))))
		text, code := planar.Print(r)
		if code != api.OK {
			t.Fatalf("P19.6: Print(%+v): %d", r, code)
		}
		parses(t, "P19.6", text, r, 0, api.OK)
		with[r.Verdict]++
	}
	for _, v := range []api.Verdict{api.Rejected, api.Planar, api.NonPlanar} {
		if with[v] < 500 {
			t.Errorf("so many verdicts of each kind: %v", with)
		}
	}
}

// marred: the text with a few bytes changed, put in or taken away.
func marred(d *probe.Dice, text string) string {
	b := []byte(text)
	for range d.Below(3) {
		at := d.Below(len(b) + 1)
		other := "0123456789 \n\nx\r-"[d.Below(16)]
		switch {
		case d.Below(3) == 0 || at == len(b):
			b = slices.Insert(b, at, other)
		case d.Below(2) == 0:
			b = slices.Delete(b, at, at+1)
		default:
			b[at] = other
		}
	}
	return string(b)
}

// TestEachIsAccepted: P7: every certificate that Run answers shows what it says; that of another graph hardly ever does.
func TestEachIsAccepted(t *testing.T) {
	d := probe.Dice(1905)
	for range 1500 {
		b := textOf(&d, thrownGraph(&d))
		out := planar.Output([]byte(b))
		if code := check.Bytes([]byte(b), out); code != api.OK {
			t.Fatalf("P7: %q: %q: %d", b, out, code)
		}
		wrong := marred(&d, b)
		if r := planar.Run([]byte(wrong)); r.Verdict != api.Rejected && check.Bytes([]byte(wrong), planar.Output([]byte(wrong))) != api.OK {
			t.Fatalf("P7: %q: %+v", wrong, r)
		}
	}
}

// TestVerdictIsTheGraphs: P5, R8: names and other components don't change it, isolated vertices don't change the part.
func TestVerdictIsTheGraphs(t *testing.T) {
	d := probe.Dice(1906)
	for range 800 {
		g := thrownGraph(&d)
		r := rightly(t, g)
		if rightly(t, d.Renamed(g)).Verdict != r.Verdict || rightly(t, probe.Beside(d.Triangles(5, 5), g)).Verdict != r.Verdict {
			t.Fatalf("P5: %v: %d, and under other names, or beside another one, not", g, r.Verdict)
		}
		if r.Verdict == api.NonPlanar {
			decides(t, "P19.1", probe.Beside(g, probe.With(3)), r)
			decides(t, "P19.1", probe.Beside(g, k4()), r)
			decides(t, "P19.1", probe.With(g.N, r.Cert.Edges...), r)
		}
	}
}

// TestCertTexts: P19.4, P19.5: of results with a certificate the texts are cert's, whether they show anything or not.
func TestCertTexts(t *testing.T) {
	d := probe.Dice(1907)
	for range 3000 {
		r := leastOf(d.Graph(d.Below(9), d.Below(101)))
		if d.Below(2) == 0 {
			r = flat(d.Rotation(d.Graph(d.Below(9), d.Below(101)))...)
		}
		if list := r.Cert.Edges; len(list) > 0 && d.Below(3) == 0 {
			list[d.Below(len(list))].V -= d.Below(4)
		}
		text, code := cert.Print(r.Cert)
		prints(t, "P19.4", r, text, code)
		if code == api.OK {
			parses(t, "P19.5", text, r, 0, api.OK)
		}
		parsesRightly(t, marred(&d, text))
		r.Verdict ^= api.Planar ^ api.NonPlanar
		prints(t, "P19.4", r, "", api.ErrRange)
	}
}
