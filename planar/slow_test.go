package planar_test

import (
	"bytes"
	"regexp"
	"slices"
	"strconv"
	"strings"
	"testing"

	"tangram/api"
	"tangram/cert"
	"tangram/parse"
	"tangram/planar"
	"tangram/probe"
)

// The chapter's words over again, by other means than the layers': planar is what has none of all subdivisions of K5 and K3,3 between six vertices; faces are counted by vertices alone; texts are held against an expression.

func number(n int) string { return strconv.Itoa(n) }

// slowSix is what few vertices need. A graph is a number there: the bits tell which edges it has, by their numbers in the full graph of six vertices.
type slowSix struct {
	number   map[api.Edge]int
	smallest []int
}

func newSlowSix() slowSix {
	s := slowSix{number: make(map[api.Edge]int)}
	for i, e := range probe.Complete(6).Edges {
		s.number[e] = i
	}
	found := make(map[int]int)
	for _, names := range probe.Arranged(probe.Rising(6)) {
		for _, base := range []api.Graph{probe.Beside(k5(), probe.With(1)), k33(), probe.Divided(k5(), 0, 1)} {
			found[s.set(probe.Renamed(base, names))]++
		}
	}
	for set := range found {
		s.smallest = append(s.smallest, set)
	}
	return s
}

func (s slowSix) set(g api.Graph) int {
	set := 0
	for _, e := range g.Edges {
		set |= 1 << s.number[e]
	}
	return set
}

func (s slowSix) planar(set int) bool {
	return !slices.ContainsFunc(s.smallest, func(small int) bool { return small&^set == 0 })
}

// least: the edges that are left when each goes that may.
func (s slowSix) least(g api.Graph) []api.Edge {
	set := s.set(g)
	var left []api.Edge
	for _, e := range g.Edges {
		if bit := 1 << s.number[e]; s.planar(set &^ bit) {
			left = append(left, e)
		} else {
			set &^= bit
		}
	}
	return left
}

// isFlat: has each list its vertex's neighbours, the least ahead, each once, and are there as many faces as there must be?
func isFlat(g api.Graph, around [][]int) bool {
	neighbours := make([][]int, g.N)
	for _, e := range g.Edges {
		neighbours[e.U] = append(neighbours[e.U], e.V)
		neighbours[e.V] = append(neighbours[e.V], e.U)
	}
	next := make(map[[2]int]int) // behind u, round v
	for v, list := range around {
		for i, u := range list {
			next[[2]int{u, v}] = list[(i+1)%len(list)]
		}
		if len(list) > 0 && slices.Min(list) != list[0] {
			return false
		}
	}
	right := slices.EqualFunc(around, neighbours, func(list, others []int) bool {
		slices.Sort(others)
		return slices.Equal(slices.Sorted(slices.Values(list)), others)
	})
	return right && g.N-len(g.Edges)+faceCount(next) == eulerWants(g, around)
}

func faceCount(next map[[2]int]int) int {
	faces := 0
	gone := make(map[[2]int]bool)
	for step := range next {
		if !gone[step] {
			faces++
		}
		for !gone[step] {
			gone[step] = true
			step = [2]int{step[1], next[step]}
		}
	}
	return faces
}

// eulerWants: twice the components, less one for each isolated vertex; names spread along edges, till nothing changes.
func eulerWants(g api.Graph, around [][]int) int {
	names := probe.Rising(g.N)
	for changed := true; changed; {
		changed = false
		for _, e := range g.Edges {
			least := min(names[e.U], names[e.V])
			changed = changed || names[e.U] != names[e.V]
			names[e.U], names[e.V] = least, least
		}
	}
	slices.Sort(names)
	want := 2 * len(slices.Compact(names))
	for _, list := range around {
		if len(list) == 0 {
			want--
		}
	}
	return want
}

// TestAllSmallGraphs: P19.1, P4, P5: all graphs of six vertices and fewer.
func TestAllSmallGraphs(t *testing.T) {
	s := newSlowSix()
	if len(s.smallest) != 76 {
		t.Fatalf("%d subdivisions, want 10 of K3,3, 6 of K5, 60 of K5 with a vertex on an edge", len(s.smallest))
	}
	with := make(map[api.Verdict]int)
	for n := range 7 {
		for _, g := range probe.Graphs(n) {
			if !s.planar(s.set(g)) {
				decides(t, "P19.1", g, leastOf(api.Graph{Edges: s.least(g)}))
				with[api.NonPlanar]++
				continue
			}
			r, code := planar.Decide(g)
			if code != api.OK || !same(r, flat(r.Cert.Around...)) || !isFlat(g, r.Cert.Around) {
				t.Fatalf("P4: Decide(%v): %+v, %d", g, r, code)
			}
			with[api.Planar]++
		}
	}
	if with[api.Planar] != 1+1+2+8+64+1023+32071 || with[api.NonPlanar] != 1+697 { // as everybody knows
		t.Errorf("so many verdicts of each kind: %v", with)
	}
}

// runsRightly: P3, P19.2, P19.3: rejected just as parse does; else what Decide says of the graph that the pairs make.
func runsRightly(t *testing.T, b string) api.Result {
	t.Helper()
	want := api.Result{Verdict: api.Rejected}
	raw, reject := parse.Raw([]byte(b))
	if want.Reject = reject; reject.Code == api.OK {
		want, _ = planar.Decide(probe.OfPairs(raw.N, raw.Pairs))
	}
	text, code := planar.Print(want)
	if code != api.OK {
		t.Fatalf("P19.4: Print(%+v): %d", shown(want), code)
	}
	runs(t, "P19.2", b, want, text)
	parses(t, "P19.6", text, want, 0, api.OK)
	return want
}

// TestAllShortTexts: P3: all texts of few bytes.
func TestAllShortTexts(t *testing.T) {
	with := make(map[api.Verdict]int)
	for _, b := range probe.Texts("012 \nx", 6) {
		with[runsRightly(t, b).Verdict]++
	}
	for _, b := range probe.Texts("0123 \n", 5) {
		with[runsRightly(t, "3 2\n0 1"+b).Verdict]++
		with[runsRightly(t, "3 1\n"+b).Verdict]++
	}
	if with[api.Rejected] < 1000 || with[api.Planar] < 100 {
		t.Errorf("so many verdicts of each kind: %v", with)
	}
}

// slowParse: what a text without a certificate looks like is an expression; the others are cert's.
func slowParse(b []byte) (api.Result, int, api.Errno) {
	if bytes.HasPrefix(b, []byte("r")) || bytes.HasPrefix(b, []byte("c")) {
		if string(b) == "cancelled\n" {
			return cancelled(), 0, api.OK
		}
		found := rejectedForm.FindSubmatch(b)
		if found == nil {
			return api.Result{}, 0, api.ErrCertText
		}
		code, _ := strconv.Atoi(string(found[1]))
		at, _ := strconv.Atoi(string(found[2]))
		return rejected(api.Errno(code), at), 0, api.OK
	}
	c, at, code := cert.Parse(b)
	switch {
	case code != api.OK:
		return api.Result{}, at, code
	case c.Planar:
		return flat(c.Around...), 0, api.OK
	}
	return leastOf(api.Graph{Edges: c.Edges}), 0, api.OK
}

var rejectedForm = regexp.MustCompile(`\Arejected ([1-9][0-9]{0,8}) (0|[1-9][0-9]{0,8})\n\z`)

// parsesRightly: P19.5; and what has been read is printed as it stood.
func parsesRightly(t *testing.T, b string) api.Errno {
	t.Helper()
	want, at, code := slowParse([]byte(b))
	parses(t, "P19.5", b, want, at, code)
	if code == api.OK {
		prints(t, "P19.5", want, b, api.OK)
	}
	return code
}

// TestAllPieces: P19.5: all texts of few pieces.
func TestAllPieces(t *testing.T) {
	with := make(map[api.Errno]int)
	for _, list := range probe.Lists([]string{"rejected", "cancelled", " ", "\n", "0", "24", "999999999", "1", "-", "p", "n"}, 5) {
		with[parsesRightly(t, strings.Join(list, ""))]++
		with[parsesRightly(t, "rejected "+strings.Join(list, ""))]++
		with[parsesRightly(t, "rejected "+strings.Join(list, "")+"\n")]++
	}
	if with[api.OK] < 50 || with[api.ErrCertText] < 100000 {
		t.Errorf("so many answers of each kind: %v", with)
	}
}

// TestEachByteChanged: P19.5: a text with one byte changed, put in or taken away, or cut off.
func TestEachByteChanged(t *testing.T) {
	with := make(map[api.Errno]int)
	for _, text := range []string{"cancelled\n", "rejected 24 6\n", "rejected 1 0\n", "rejected 999999999 999999999\n", "rejected 10 16777216\n", "p 3\n1\n0 2\n1\n", "n 2\n0 1\n0 4\n"} {
		for at := range len(text) + 1 {
			with[parsesRightly(t, text[:at])]++
			with[parsesRightly(t, text[at:])]++
			for c := range 256 {
				with[parsesRightly(t, text[:at]+string([]byte{byte(c)})+text[at:])]++
				if at < len(text) {
					with[parsesRightly(t, text[:at]+string([]byte{byte(c)})+text[at+1:])]++
				}
			}
			if at < len(text) {
				with[parsesRightly(t, text[:at]+text[at+1:])]++
			}
		}
	}
	if with[api.OK] < 500 || with[api.ErrCertText] < 10000 {
		t.Errorf("so many answers of each kind: %v", with)
	}
}

// TestAllRejects: P19.4: numbers at and about the edges, each with each.
func TestAllRejects(t *testing.T) {
	numbers := []int{-1 << 63, -1000000000, -24, -1, 0, 1, 2, 9, 10, 24, 99, 100, 16777216, 999999998, 999999999, 1000000000, 1000000001, 1 << 31, 1 << 32, 1<<32 + 1, 1<<63 - 1}
	for _, code := range numbers {
		for _, at := range numbers {
			text := "rejected " + number(code) + " " + number(at) + "\n"
			r := rejected(api.Errno(code), at)
			if code < 1 || code > 999999999 || at < 0 || at > 999999999 {
				prints(t, "P19.4", r, "", api.ErrRange)
				parses(t, "P19.5", text, api.Result{}, 0, api.ErrCertText)
				continue
			}
			prints(t, "P19.4", r, text, api.OK)
			parses(t, "P19.5", text, r, 0, api.OK)
		}
	}
}

func FuzzRun(f *testing.F) {
	for _, b := range []string{"", "0 0", "3 2\n0 1\n1 2\n", "2 1\n0 2\n", "5 10\n0 1\n0 2\n0 3\n0 4\n1 2\n1 3\n1 4\n2 3\n2 4\n3 4\n"} {
		f.Add([]byte(b))
	}
	f.Fuzz(func(t *testing.T, b []byte) { runsRightly(t, string(b)) })
}

func FuzzParseResult(f *testing.F) {
	for _, b := range []string{"", "cancelled\n", "rejected 24 6\n", "p 3\n1\n0 2\n1\n", "n 2\n0 1\n0 4\n"} {
		f.Add([]byte(b))
	}
	f.Fuzz(func(t *testing.T, b []byte) { parsesRightly(t, string(b)) })
}
