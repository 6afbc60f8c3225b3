package planar_test

import (
	"strings"
	"testing"

	"tangram/api"
	"tangram/check"
	"tangram/planar"
	"tangram/probe"
	"tangram/simple"
)

// TestGreatGraphs: P19.1 at the limits.
func TestGreatGraphs(t *testing.T) {
	for _, g := range probe.Great() {
		rightly(t, g)
	}
	if _, code := planar.Decide(probe.Dense(api.MaxEdges + 1)); code != api.ErrGraph {
		t.Errorf("P19.1: %d", code)
	}
}

// TestTooLongToPrint: P19.1, P19.4: as many edges as a planar graph can have; its certificate would have more than MaxText bytes.
func TestTooLongToPrint(t *testing.T) {
	g := probe.Hubs(probe.Path(api.MaxN-2), 2)
	r := rightly(t, g)
	if r.Verdict != api.Planar {
		t.Fatalf("P19.1: %+v", shown(r))
	}
	prints(t, "P19.4", r, "", api.ErrLong)
	r.Verdict = api.NonPlanar
	prints(t, "P19.4", r, "", api.ErrRange)
}

// outputs: Run's verdict of a graph's text; Output is accepted, and is read again as it was.
func outputs(t *testing.T, b string, want api.Verdict) {
	t.Helper()
	out := planar.Output([]byte(b))
	r, at, code := planar.ParseResult(out)
	if r.Verdict != want || at != 0 || code != api.OK {
		t.Fatalf("P19.6: of %q: %q: %+v, %d, %d", brief(b), brief(string(out)), shown(r), at, code)
	}
	if want != api.Rejected && !check.Accepts([]byte(b), out) {
		t.Fatalf("P7: of %q: %q isn't accepted", brief(b), brief(string(out)))
	}
}

// TestGreatTexts: P3, P4, P6: texts of many lines, and of as many bytes as there may be.
func TestGreatTexts(t *testing.T) {
	d := probe.Dice(1908)
	for _, x := range []struct {
		g    api.Graph
		want api.Verdict
	}{
		{probe.Path(api.MaxN), api.Planar},
		{probe.With(api.MaxN), api.Planar},
		{probe.Slanted(300, 500), api.Planar},
		{probe.Hubs(probe.Cycle(200000), 2), api.Planar},
		{d.Triangles(3000, 5000), api.Planar},
		{probe.Hubs(probe.Cycle(2000), 3), api.NonPlanar},
		{probe.Complete(900), api.NonPlanar},
		{probe.TwoPart(3, 4000), api.NonPlanar},
		{probe.Beside(probe.Star(api.MaxN-6, 5), k33()), api.NonPlanar},
	} {
		b, code := simple.Text(x.g)
		if code != api.OK {
			t.Fatalf("simple.Text: %d", code)
		}
		outputs(t, b, x.want)
		runs(t, "P3", b+"7", rejected(api.ErrMany, len(b)), "rejected 26 "+number(len(b))+"\n")
	}
}

// TestBytesAndLines: P3: one byte too many, and one line, in texts that would say a graph otherwise.
func TestBytesAndLines(t *testing.T) {
	full := "2 1\n0 1\n" + strings.Repeat("\n", api.MaxBytes-8)
	runs(t, "P3", full, flat([]int{1}, []int{0}), "p 2\n1\n0\n")
	runs(t, "P3", full+"\n", rejected(api.ErrLong, api.MaxBytes), "rejected 10 16777216\n")
	all := "2 2097152\n" + strings.Repeat("0 1\n", api.MaxM)
	runs(t, "P3", all, flat([]int{1}, []int{0}), "p 2\n1\n0\n")
	runs(t, "P3", all+"0 1\n", rejected(api.ErrMany, len(all)), "rejected 26 "+number(len(all))+"\n")
	runs(t, "P3", all[:len(all)-4], rejected(api.ErrFew, len(all)-4), "rejected 25 "+number(len(all)-4)+"\n")
	runs(t, "P3", "1048577 0", rejected(api.ErrN, 0), "rejected 21 0\n")
	runs(t, "P3", "0 2097153", rejected(api.ErrM, 2), "rejected 22 2\n")
}

// TestLongResults: P19.5: texts of MaxText bytes and of one more; without a certificate they are never so long.
func TestLongResults(t *testing.T) {
	zeros := "p 1\n" + strings.Repeat("0 ", (api.MaxText-6)/2) + "0\n"
	if len(zeros) != api.MaxText {
		t.Fatalf("the text has %d bytes", len(zeros))
	}
	r, at, code := planar.ParseResult([]byte(zeros))
	if code != api.OK || at != 0 || r.Verdict != api.Planar || len(r.Cert.Around) != 1 || len(r.Cert.Around[0]) != (api.MaxText-4)/2 {
		t.Fatalf("P19.5: %+v, %d, %d", shown(r), at, code)
	}
	prints(t, "P19.4", r, zeros, api.OK)
	r.Cert.Around[0][1] = 10
	prints(t, "P19.4", r, "", api.ErrLong)
	parses(t, "P19.5", zeros+"\n", api.Result{}, api.MaxText, api.ErrLong)
	parses(t, "P19.5", strings.Repeat("x", api.MaxText+1), api.Result{}, api.MaxText, api.ErrLong)
	for _, b := range []string{"r", "c", "rejected 24 6\n", "cancelled\n", "rejected ", "rejected 24 "} {
		for _, tail := range []string{"\n", "6", " ", "x"} {
			parses(t, "P19.5", b+strings.Repeat(tail, api.MaxText), api.Result{}, 0, api.ErrCertText)
		}
	}
}
