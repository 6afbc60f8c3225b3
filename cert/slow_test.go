package cert_test

import (
	"regexp"
	"slices"
	"strconv"
	"strings"
	"testing"

	"tangram/api"
	"tangram/cert"
	"tangram/probe"
)

// The chapter's words over again, by other means than the layer's: a text is written by joining, is told to write something by cutting it at its line's ends, and its first fault is found by what the chapter wants of its pieces, one by one.

// isNumber: is that how a number is written?
func isNumber(s string) (int, bool) {
	n, err := strconv.Atoi(s)
	return n, err == nil && n >= 0 && n < 1e9 && strconv.Itoa(n) == s
}

func before(a, b api.Edge) bool { return a.U < b.U || a.U == b.U && a.V < b.V }

// written: the certificate's text, however long; false, if it has none.
func written(c api.Cert) (string, bool) {
	letter, lists := "n", make([][]int, 0, len(c.Edges))
	for _, e := range c.Edges {
		lists = append(lists, []int{e.U, e.V})
	}
	if c.Planar {
		letter, lists = "p", c.Around
	}
	rows := []string{letter + " " + strconv.Itoa(len(lists))}
	for _, list := range lists {
		if len(list) > 0 && (slices.Min(list) != list[0] || list[0] < 0 || slices.Max(list) >= 1e9) {
			return "", false
		}
		var words []string
		for _, n := range list {
			words = append(words, strconv.Itoa(n))
		}
		rows = append(rows, strings.Join(words, " "))
	}
	return strings.Join(rows, "\n") + "\n", !mixed(c) && len(lists) <= most(c.Planar) && rising(c.Edges)
}

func mixed(c api.Cert) bool { return c.Planar && len(c.Edges) > 0 || !c.Planar && len(c.Around) > 0 }

func most(planar bool) int {
	if planar {
		return 1048576
	}
	return 4194304
}

func rising(edges []api.Edge) bool {
	for i, e := range edges {
		if e.U >= e.V || i > 0 && !before(edges[i-1], e) {
			return false
		}
	}
	return true
}

// meant: the certificate that the text writes; false, if it writes none.
func meant(text string) (api.Cert, bool) {
	body, ended := strings.CutSuffix(text, "\n")
	rows := strings.Split(body, "\n")
	letter, count, _ := strings.Cut(rows[0], " ")
	k, is := isNumber(count)
	c := api.Cert{Planar: letter == "p"}
	if !ended || !is || letter != "p" && letter != "n" || k != len(rows)-1 || k > most(c.Planar) {
		return api.Cert{}, false
	}
	for _, row := range rows[1:] {
		list, are := numbers(row)
		switch {
		case !are:
			return api.Cert{}, false
		case c.Planar && (len(list) == 0 || slices.Min(list) == list[0]):
			c.Around = append(c.Around, list)
		case !c.Planar && len(list) == 2:
			c.Edges = append(c.Edges, api.Edge{U: list[0], V: list[1]})
		default:
			return api.Cert{}, false
		}
	}
	if !rising(c.Edges) {
		return api.Cert{}, false
	}
	return c, true
}

func numbers(row string) ([]int, bool) {
	if row == "" {
		return nil, true
	}
	var list []int
	for word := range strings.SplitSeq(row, " ") {
		n, is := isNumber(word)
		if !is {
			return nil, false
		}
		list = append(list, n)
	}
	return list, true
}

// machine is asked piece by piece; wanted is what it wants next.
type machine struct {
	wanted   string
	planar   bool
	left     int // lines
	first    int // of the list
	edge     api.Edge
	edgeAt   int
	lastEdge *api.Edge
}

var pieces = regexp.MustCompile(`[0-9]+|[^0-9]`)

// faultAt: the place of the text's first fault; -1, if it has none.
func faultAt(text string) int {
	m := machine{wanted: "letter"}
	for _, span := range pieces.FindAllStringIndex(text, -1) {
		if place, wrong := m.step(text[span[0]:span[1]], span[0]); wrong {
			return place
		}
	}
	if m.wanted != "nothing" {
		return len(text)
	}
	return -1
}

// step takes the piece that stands at that place; if it isn't what is wanted: the place of the fault, and true.
func (m *machine) step(piece string, at int) (int, bool) {
	n, is := isNumber(piece)
	switch {
	case m.wanted == "letter" && (piece == "p" || piece == "n"):
		m.planar, m.wanted = piece == "p", "blank"
	case m.wanted == "blank" && piece == " ":
		m.wanted = "count"
	case m.wanted == "count" && is && n <= most(m.planar):
		m.left, m.wanted = n+1, "end of line"
	case m.wanted == "end of line" && piece == "\n":
		m.nextLine()
	case m.wanted == "list" && is:
		m.first, m.wanted = n, "more of the list"
	case (m.wanted == "list" || m.wanted == "more of the list") && piece == "\n":
		m.nextLine()
	case m.wanted == "more of the list" && piece == " ":
		m.wanted = "number of the list"
	case m.wanted == "number of the list" && is && n >= m.first:
		m.wanted = "more of the list"
	case m.wanted == "U" && is:
		m.edge.U, m.edgeAt, m.wanted = n, at, "blank of the edge"
	case m.wanted == "blank of the edge" && piece == " ":
		m.wanted = "V"
	case m.wanted == "V" && is && n > m.edge.U:
		m.edge.V = n
		if m.lastEdge != nil && !before(*m.lastEdge, m.edge) {
			return m.edgeAt, true
		}
		last := m.edge
		m.lastEdge, m.wanted = &last, "end of line"
	default:
		return at, true
	}
	return 0, false
}

func (m *machine) nextLine() {
	m.left--
	switch {
	case m.left == 0:
		m.wanted = "nothing"
	case m.planar:
		m.wanted = "list"
	default:
		m.wanted = "U"
	}
}

// readRightly: Parse answers what the chapter's words say of the text; and where that is a certificate, Print gives the text back.
func readRightly(t *testing.T, text string) {
	t.Helper()
	c, is := meant(text)
	place := faultAt(text)
	if is != (place == -1) {
		t.Fatalf("the slow answers don't agree of %q: %v, %d", text, is, place)
	}
	if !is {
		refuses(t, "P17.1", text, place, api.ErrCertText)
		return
	}
	parses(t, "P17.1", text, c)
	prints(t, "P17.2", c, text)
}

// printedRightly: Print answers what the chapter's words say; and where that is a text, Parse gives the certificate back.
func printedRightly(t *testing.T, c api.Cert) {
	t.Helper()
	text, is := written(c)
	if !is {
		unprinted(t, "P17.1", c, api.ErrCertText)
		return
	}
	prints(t, "P17.1", c, text)
	parses(t, "P17.2", text, c)
}

func TestAllShortTexts(t *testing.T) {
	for ahead, behind := range map[string][]string{
		"":                  probe.Texts("pn01 \n", 7),
		"p 1\n":             probe.Texts("0129 \n", 6),
		"p 2\n":             probe.Texts("01 \n", 8),
		"p 10\n\n\n\n\n\n":  probe.Texts("01 \n", 8),
		"p 3\n1\n":          probe.Texts("01 \nx", 6),
		"p 1\n1000 ":        probe.Texts("01 \n", 7),
		"n 1\n":             probe.Texts("0129 \n", 6),
		"n 2\n":             probe.Texts("01 \n", 8),
		"n 2\n1 2\n":        probe.Texts("0123 \n", 6),
		"n 3\n0 1\n0 11\n":  probe.Texts("012 \n", 7),
		"n 2\n10 12\n":      probe.Texts("012 \n", 7),
		"n 1\n99999999 ":    probe.Texts("09 \n", 7),
		"n 1\n9999999":      probe.Texts("09 \n", 8),
		"p 1\n1000000":      probe.Texts("09 \n", 8),
		"p 10485":           probe.Texts("0678\n", 5),
		"n 41943":           probe.Texts("0345\n", 5),
		"n 4194304\n0 ":     probe.Texts("01 \n", 5),
		"p 1048576\n\n\n0 ": probe.Texts("01 \n", 5),
	} {
		for _, rest := range behind {
			readRightly(t, ahead+rest)
		}
	}
}

// TestEachByte: in place of each byte of a text, and between each two.
func TestEachByte(t *testing.T) {
	for _, text := range []string{"p 3\n1\n0 12\n\n", "p 0\n", "n 2\n0 1\n0 14\n", "n 0\n", "p 1\n999999999\n", "n 1\n0 999999999\n"} {
		for at := range len(text) + 1 {
			for c := range 256 {
				readRightly(t, text[:at]+string([]byte{byte(c)})+text[at:])
				if at < len(text) {
					readRightly(t, text[:at]+string([]byte{byte(c)})+text[at+1:])
				}
			}
		}
	}
}

func TestAllSmallCertificates(t *testing.T) {
	lists := probe.Lists([]int{-1, 0, 1, 2, 10, 999999999, 1000000000}, 3)
	for _, list := range lists {
		printedRightly(t, round(list))
		for _, other := range lists[:57] {
			printedRightly(t, round(list, other))
			printedRightly(t, round(nil, other, list, nil))
		}
	}
	var edges []api.Edge
	for _, u := range []int{-1, 0, 1, 2, 10, 999999999} {
		for _, v := range []int{-1, 0, 1, 2, 10, 1000000000} {
			edges = append(edges, api.Edge{U: u, V: v})
		}
	}
	for _, list := range probe.Lists(edges, 3) {
		printedRightly(t, api.Cert{Edges: list})
	}
	for _, around := range probe.Lists([][]int{nil, {}, {0}, {0, 1}, {1, 0}}, 2) {
		for _, list := range probe.Lists([]api.Edge{{U: 0, V: 1}, {U: 0, V: 2}, {U: 2, V: 1}}, 2) {
			printedRightly(t, api.Cert{Planar: true, Around: around, Edges: list})
			printedRightly(t, api.Cert{Around: around, Edges: list})
		}
	}
}

// thrownNumber: of any length, the limits among them.
func thrownNumber(d *probe.Dice) int {
	bound := []int{1, 2, 10, 100, 1000, 1000000, 1000000000}[d.Below(7)]
	if d.Below(10) == 0 {
		return bound - 1
	}
	return d.Below(bound)
}

// leastFirst: the list turned so that no number is below the first.
func leastFirst(list []int) []int {
	if len(list) == 0 {
		return nil
	}
	return probe.Turn(list, slices.Index(list, slices.Min(list)))
}

// thrown: a certificate that has a text.
func thrown(d *probe.Dice) api.Cert {
	if d.Below(2) == 0 {
		around := make([][]int, d.Below(8))
		for v := range around {
			for range d.Below(5) {
				around[v] = append(around[v], thrownNumber(d))
			}
			around[v] = leastFirst(around[v])
		}
		return round(around...)
	}
	pairs := make([][2]int, d.Below(8))
	for i := range pairs {
		pairs[i] = [2]int{thrownNumber(d), thrownNumber(d)}
	}
	return api.Cert{Edges: probe.OfPairs(0, pairs).Edges}
}

// thrownCert: one that may have no text.
func thrownCert(d *probe.Dice) api.Cert {
	c := thrown(d)
	for range d.Below(3) {
		n := []int{-1, 0, 1, 5, 999999999, 1000000000}[d.Below(6)]
		switch {
		case d.Below(9) == 0:
			c.Planar = !c.Planar
		case len(c.Around) > 0:
			list := c.Around[d.Below(len(c.Around))]
			if len(list) > 0 {
				list[d.Below(len(list))] = n
			}
		case len(c.Edges) > 0 && d.Below(2) == 0:
			c.Edges[d.Below(len(c.Edges))].U = n
		case len(c.Edges) > 0:
			c.Edges[d.Below(len(c.Edges))].V = n
		}
	}
	return c
}

// marred: the text with a few bytes changed, put in or taken away.
func marred(d *probe.Dice, text string) string {
	b := []byte(text)
	for range 1 + d.Below(2) {
		at := d.Below(len(b) + 1)
		other := "0123456789 \n\npnx\r"[d.Below(17)]
		switch {
		case d.Below(3) == 0 || at == len(b):
			b = slices.Insert(b, at, other)
		case d.Below(2) == 0:
			b = slices.Delete(b, at, at+1)
		default:
			b[at] = other
		}
	}
	return string(b)
}

func TestThrownCertificates(t *testing.T) {
	d := probe.Dice(1701)
	with := make(map[bool]int)
	for range 60000 {
		c := thrownCert(&d)
		_, is := written(c)
		with[is]++
		printedRightly(t, c)
	}
	if with[true] < 10000 || with[false] < 10000 {
		t.Errorf("so many certificates have a text, or none: %v", with)
	}
}

func TestThrownTexts(t *testing.T) {
	d := probe.Dice(1702)
	with := make(map[bool]int)
	for range 100000 {
		text, _ := written(thrown(&d))
		text = marred(&d, text)
		with[faultAt(text) == -1]++
		readRightly(t, text)
	}
	if with[true] < 5000 || with[false] < 10000 {
		t.Errorf("so many texts write a certificate, or none: %v", with)
	}
}

func FuzzParse(f *testing.F) {
	for _, s := range []string{"", "p 3\n1\n0\n\n", "p 1\n4 9 4 7\n", "p 0\n", "n 2\n0 1\n0 4\n", "n 0\n", "p 1048577\n", "n 2\n0 2\n0 1\n", "p 1\n3 1\n"} {
		f.Add([]byte(s))
	}
	f.Fuzz(func(t *testing.T, b []byte) {
		readRightly(t, string(b))
		c, _, code := cert.Parse(b)
		if code == api.OK {
			printedRightly(t, c)
		}
	})
}
