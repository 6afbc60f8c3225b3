package cert_test

import (
	"math"
	"slices"
	"strconv"
	"strings"
	"testing"

	"tangram/api"
	"tangram/cert"
	"tangram/probe"
)

func same(a, b api.Cert) bool {
	return a.Planar == b.Planar && probe.SameLists(a.Around, b.Around) && slices.Equal(a.Edges, b.Edges)
}

func round(lists ...[]int) api.Cert { return api.Cert{Planar: true, Around: lists} }

// part: a certificate of edges, by their ends, two by two.
func part(ends ...int) api.Cert { return api.Cert{Edges: probe.OfEnds(0, ends...).Edges} }

// lines: a text in which `|` stands for a line's end.
func lines(s string) string { return strings.ReplaceAll(s, "|", "\n") }

func brief(text string) string {
	if len(text) <= 200 {
		return strconv.Quote(text)
	}
	return strconv.Quote(text[:60]) + " .. " + strconv.Quote(text[len(text)-60:])
}

// shown: a certificate short enough for a message.
func shown(c api.Cert) api.Cert {
	c.Around, c.Edges = slices.Clone(c.Around[:min(len(c.Around), 20)]), c.Edges[:min(len(c.Edges), 20)]
	for v, list := range c.Around {
		c.Around[v] = list[:min(len(list), 20)]
	}
	return c
}

// prints: the certificate has this text.
func prints(t *testing.T, promise string, c api.Cert, text string) {
	t.Helper()
	if s, code := cert.Print(c); s != text || code != api.OK {
		t.Fatalf("%s: Print(%v): %s, %d, want %s", promise, shown(c), brief(s), code, brief(text))
	}
}

// unprinted: the certificate has no text, for this reason.
func unprinted(t *testing.T, promise string, c api.Cert, want api.Errno) {
	t.Helper()
	if s, code := cert.Print(c); s != "" || code != want {
		t.Fatalf("%s: Print(%v): %s, %d, want %d", promise, shown(c), brief(s), code, want)
	}
}

// parses: the text writes this certificate.
func parses(t *testing.T, promise, text string, c api.Cert) {
	t.Helper()
	if x, at, code := cert.Parse([]byte(text)); !same(x, c) || at != 0 || code != api.OK {
		t.Fatalf("%s: Parse(%s): %v, %d, %d, want %v", promise, brief(text), shown(x), at, code, shown(c))
	}
}

// refuses: the text writes no certificate, and that shows at this place.
func refuses(t *testing.T, promise, text string, place int, want api.Errno) {
	t.Helper()
	if x, at, code := cert.Parse([]byte(text)); !same(x, api.Cert{}) || at != place || code != want {
		t.Fatalf("%s: Parse(%s): %v, %d, %d, want %d, %d", promise, brief(text), shown(x), at, code, place, want)
	}
}

// bothWays: the certificate and its text.
func bothWays(t *testing.T, promise string, c api.Cert, text string) {
	t.Helper()
	prints(t, promise, c, text)
	parses(t, promise, text, c)
}

func TestTexts(t *testing.T) {
	for text, c := range map[string]api.Cert{
		"p 3|1|0||":                       round([]int{1}, []int{0}, nil),
		"p 1|4 9 4 7|":                    round([]int{4, 9, 4, 7}),
		"p 0|":                            round(),
		"n 2|0 1|0 4|":                    part(0, 1, 0, 4),
		"n 0|":                            {},
		"p 1||":                           round(nil),
		"p 3||||":                         round(nil, nil, nil),
		"p 1|0|":                          round([]int{0}),
		"p 1|0 0|":                        round([]int{0, 0}),
		"p 2|5 5 5|3|":                    round([]int{5, 5, 5}, []int{3}),
		"p 2|999999999|0 999999999 10|":   round([]int{999999999}, []int{0, 999999999, 10}),
		"p 2|7 100 1000 10000|7|":         round([]int{7, 100, 1000, 10000}, []int{7}),
		"p 12" + strings.Repeat("|", 13):  round(make([][]int, 12)...),
		"n 1|0 999999999|":                part(0, 999999999),
		"n 1|999999998 999999999|":        part(999999998, 999999999),
		"n 4|0 1|0 2|1 2|2 3|":            part(0, 1, 0, 2, 1, 2, 2, 3),
		"n 3|0 9|0 10|1 2|":               part(0, 9, 0, 10, 1, 2),
		"n 2|9 10|10 11|":                 part(9, 10, 10, 11),
		"n 3|8 999999999|9 10|9 4000000|": part(8, 999999999, 9, 10, 9, 4000000),
	} {
		bothWays(t, "P17.1", c, lines(text))
	}
}

// TestFaultsOfTheHead: the letter, the blank, the number of lines, the line's end.
func TestFaultsOfTheHead(t *testing.T) {
	for text, place := range map[string]int{
		"": 0, "q": 0, "P 0|": 0, "N 0|": 0, " p 0|": 0, "|p 0|": 0, "0": 0, "pp 0|": 1, "\x00": 0, "\xff": 0, "\u00fe 0|": 0,
		"p": 1, "n": 1, "p|": 1, "p0|": 1, "n0|": 1, "p\t0|": 1, "pn 0|": 1, "p\u00a00|": 1,
		"p ": 2, "n ": 2, "p |": 2, "p  1||": 2, "n  0|": 2, "p x|": 2, "p -1|": 2, "p +0|": 2, "p p|": 2,
		"p 01||": 2, "p 00|": 2, "n 00|": 2, "n 01|0 1|": 2, "p 1048577|": 2, "n 4194305|": 2, "p 999999999|": 2, "n 999999999|": 2, "p 1000000000|": 2, "n 0000000000|": 2, "n 18446744073709551616|": 2, "p 01x": 2, "p 1048577x": 2, "n 4194305": 2,
		"p 0": 3, "n 0": 3, "p 0 |": 3, "p 0 0|": 3, "p 0\r|": 3, "n 0x": 3, "p 1.0|": 3, "p 0\x00": 3, "p 10": 4, "n 123 |": 5, "p 1048576": 9, "p 1048576 |": 9, "n 4194304": 9, "n 4194304\t|": 9,
	} {
		refuses(t, "P17.1", lines(text), place, api.ErrCertText)
	}
}

func TestFaultsOfLists(t *testing.T) {
	for text, place := range map[string]int{
		"p 1|": 4, "p 2|": 4, "p 2||": 5, "p 2|0|": 6, "p 3|1|0|": 8, "p 1048576|": 10, "p 1048576|0|": 12,
		"p 1| 3|": 4, "p 1| |": 4, "p 1|x|": 4, "p 1|-1|": 4, "p 1|p|": 4, "p 1|\t|": 4, "p 1|\r|": 4, "p 2|| |": 5, "p 2|0|x": 6,
		"p 1|1000000000|": 4, "p 1|00|": 4, "p 1|01|": 4, "p 1|01": 4, "p 1|1000000000": 4, "p 1|0000000000000|": 4,
		"p 1|3": 5, "p 1|3\r|": 5, "p 1|3\t4|": 5, "p 1|3,4|": 5, "p 1|3x": 5, "p 1|999999999": 13, "p 1|3-4|": 5,
		"p 1|3 |": 6, "p 1|3 ": 6, "p 1|3  4|": 6, "p 1|3 x|": 6, "p 1|3 04|": 6, "p 1|3 4000000000|": 6, "p 1|3 -4|": 6, "p 1|3 4 |": 8, "p 1|3 4 ": 8, "p 1|3 4": 7,
		"p 1|3 1|": 6, "p 1|3 1": 6, "p 1|3 1x": 6, "p 1|3 2 |": 6, "p 1|3 4 3 0 1|": 10, "p 1|10 9|": 7, "p 1|10 11 1|": 10, "p 1|999999999 999999998|": 14, "p 1|1 0|": 6, "p 2|0|2 1|": 8, "p 2|3 1|x": 6,
		"p 0||": 4, "p 0|0|": 4, "p 0|x": 4, "p 0| ": 4, "p 0|p 0|": 4, "p 1|0|0|": 6, "p 1|||": 5, "p 1||1|": 5, "p 2|0||1|": 7, "p 3|1|0|||": 9, "p 0|\x00": 4,
	} {
		refuses(t, "P17.1", lines(text), place, api.ErrCertText)
	}
}

func TestFaultsOfEdges(t *testing.T) {
	for text, place := range map[string]int{
		"n 1|": 4, "n 1||": 4, "n 2|0 1|": 8, "n 3|0 1|0 2|": 12, "n 4194304|": 10, "n 4194304|0 1|": 14,
		"n 1| 0 1|": 4, "n 1|x": 4, "n 1|-1 0|": 4, "n 1|00 1|": 4, "n 1|1000000000 1|": 4, "n 2|0 1||": 8, "n 2|0 1| ": 8,
		"n 1|0": 5, "n 1|0|": 5, "n 1|0\t1|": 5, "n 1|0x": 5, "n 1|3|1|": 5,
		"n 1|0 ": 6, "n 1|0 |": 6, "n 1|0  1|": 6, "n 1|0 x": 6, "n 1|0 01|": 6, "n 1|0 00|": 6, "n 1|0 1000000000|": 6, "n 1|0 -1|": 6,
		"n 1|0 1": 7, "n 1|0 1 |": 7, "n 1|0 1 2|": 7, "n 1|0 1\r|": 7, "n 1|0 1x": 7, "n 2|0 1 0 2|": 7,
		"n 1|3 1|": 6, "n 1|1 1|": 6, "n 1|0 0|": 6, "n 1|3 1": 6, "n 1|3 1x": 6, "n 1|10 9|": 7, "n 1|10 1": 7, "n 1|999999999 999999999|": 14, "n 1|999999999 0|": 14,
		"n 2|0 2|0 1|": 8, "n 2|0 2|0 2|": 8, "n 2|1 2|0 9|": 8, "n 2|1 2|0 3": 8, "n 2|1 2|0 3x": 8, "n 3|0 1|5 6|4 7|": 12, "n 3|0 1|5 6|5 6|": 12, "n 2|10 11|9 12|": 10, "n 2|0 10|0 9|": 9, "n 2|0 2|0 12": 12,
		// V is read, and held against U, ahead of the edge against the one ahead of it.
		"n 2|1 2|0": 9, "n 2|1 2|0 ": 10, "n 2|1 2|0 x": 10, "n 2|1 2|0 01|": 10, "n 2|1 2|0 0|": 10, "n 2|1 2|1 1|": 10, "n 2|4 5|3 2|": 10,
		"n 0||": 4, "n 0|0 1|": 4, "n 0|x": 4, "n 0|n 0|": 4, "n 1|0 1||": 8, "n 1|0 1|0 2|": 8, "n 1|0 1|x": 8, "n 1|0 1| ": 8,
	} {
		refuses(t, "P17.1", lines(text), place, api.ErrCertText)
	}
}

func TestNoText(t *testing.T) {
	edges := part(0, 1).Edges
	for _, c := range []api.Cert{
		// Of both kinds.
		{Planar: true, Edges: edges}, {Planar: true, Around: [][]int{{1}, {0}}, Edges: edges}, {Around: [][]int{{1}, {0}}}, {Around: [][]int{nil}}, {Around: [][]int{{}, {}}, Edges: edges},
		// Numbers that have no digits, or too many.
		round([]int{-1}), round([]int{0, -1}), round([]int{-1, 0}), round([]int{math.MinInt64}), round([]int{1000000000}), round([]int{0, 1000000000}), round([]int{0, math.MaxInt64}), round(nil, []int{0}, []int{0, 5, 1000000000, 5}),
		part(-1, 1), part(-2, -1), part(math.MinInt64, math.MaxInt64), part(0, 1000000000), part(1000000000, 1000000001), part(0, math.MaxInt64), part(math.MinInt64, 0), part(0, 1, -1, 2), part(0, 1, 0, 1000000000),
		// A number below the first.
		round([]int{2, 1}), round([]int{2, 3, 1, 4}), round([]int{0}, []int{1, 0}), round([]int{999999999, 999999998}), round([]int{10, 9}),
		// Ends, and edges, that don't rise.
		part(1, 1), part(0, 0), part(2, 1), part(0, 1, 2, 2), part(0, 1, 3, 2), part(0, -1), part(999999999, 0),
		part(0, 2, 0, 1), part(0, 1, 0, 1), part(1, 2, 0, 3), part(0, 1, 1, 2, 0, 5), part(0, 10, 0, 9), part(0, 1, 0, 2, 0, 2), part(5, 6, 4, 999999999),
	} {
		unprinted(t, "P17.1", c, api.ErrCertText)
	}
}
