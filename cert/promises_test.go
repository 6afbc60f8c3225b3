package cert_test

import (
	"strconv"
	"strings"
	"testing"

	"tangram/api"
	"tangram/cert"
	"tangram/embed"
	"tangram/extract"
	"tangram/probe"
	"tangram/rot"
)

// TestOneSpelling: P17.2: certificates and texts belong together two by two; among all small ones no certificate has two texts, and no text is two certificates'.
func TestOneSpelling(t *testing.T) {
	all := []api.Cert{{}, round()}
	for _, list := range probe.Lists([]int{0, 1, 11}, 4) {
		all = append(all, round(list), round(list, nil), round(nil, list), round([]int{0, 1}, list))
	}
	for _, list := range probe.Lists(probe.OfEnds(0, 0, 1, 0, 11, 1, 2, 1, 11, 10, 11).Edges, 3) {
		all = append(all, api.Cert{Edges: list})
	}
	by := make(map[string]api.Cert)
	for _, c := range all {
		text, code := cert.Print(c)
		if code != api.OK {
			continue
		}
		if other, there := by[text]; there && !same(other, c) {
			t.Fatalf("P17.2: %v and %v have the text %q", other, c, text)
		}
		by[text] = c
		parses(t, "P17.2", text, c)
	}
	if len(by) < 100 {
		t.Errorf("only %d texts", len(by))
	}
}

// TestBeginnings: P17.3: each beginning that is shorter is refused at its end or ahead of it.
func TestBeginnings(t *testing.T) {
	d := probe.Dice(1703)
	for range 3000 {
		text, _ := written(thrown(&d))
		for end := range len(text) {
			c, at, code := cert.Parse([]byte(text[:end]))
			if !same(c, api.Cert{}) || code != api.ErrCertText || at > end {
				t.Fatalf("P17.3: Parse(%q), the beginning of %q: %v, %d, %d", text[:end], text, c, at, code)
			}
			refuses(t, "P17.1", text[:end], faultAt(text[:end]), api.ErrCertText)
		}
	}
}

// TestAnythingBehind: P17.3: the text with anything behind it is refused where it ends.
func TestAnythingBehind(t *testing.T) {
	d := probe.Dice(1704)
	for range 300 {
		text, _ := written(thrown(&d))
		for c := range 256 {
			refuses(t, "P17.3", text+string([]byte{byte(c)}), len(text), api.ErrCertText)
		}
		other, _ := written(thrown(&d))
		for _, more := range []string{text, other, "0 1\n", "\n\n", "\r\n", strings.Repeat("0", 100)} {
			refuses(t, "P17.3", text+more, len(text), api.ErrCertText)
		}
	}
}

// TestOtherSpellings: P17.2: what means the same to the eye isn't the text of a certificate.
func TestOtherSpellings(t *testing.T) {
	d := probe.Dice(1705)
	for range 3000 {
		text, _ := written(thrown(&d))
		for at := range len(text) {
			switch text[at] {
			case ' ':
				refused(t, text[:at]+" "+text[at:])
				refused(t, text[:at]+"\t"+text[at+1:])
				refused(t, text[:at]+"\n"+text[at+1:])
			case '\n':
				refused(t, text[:at]+" "+text[at:])
				refused(t, text[:at]+"\r"+text[at:])
				refused(t, text[:at]+"\n"+text[at:])
			case 'p', 'n':
				refused(t, text[:at]+strings.ToUpper(text[at:at+1])+text[at+1:])
			default:
				if text[at-1] < '0' {
					refused(t, text[:at]+"0"+text[at:])
					refused(t, text[:at]+"+"+text[at:])
				}
			}
		}
	}
}

func refused(t *testing.T, text string) {
	t.Helper()
	if c, _, code := cert.Parse([]byte(text)); !same(c, api.Cert{}) || code != api.ErrCertText {
		t.Fatalf("P17.2: Parse(%q): %v, %d", text, c, code)
	}
}

// shows: a certificate of the graph, as the layers below find it.
func shows(t *testing.T, g api.Graph) api.Cert {
	t.Helper()
	r, planar, code := embed.Embed(g)
	if code != api.OK {
		t.Fatalf("embed.Embed(%v): %d", probe.Shown(g), code)
	}
	if !planar {
		var c api.Cert
		list, _ := extract.Minimal(g)
		for _, e := range list {
			c.Edges = append(c.Edges, g.Edges[e])
		}
		return c
	}
	around, _ := rot.Around(g, r)
	for v, list := range around {
		around[v] = leastFirst(list)
	}
	return round(around...)
}

// TestCertificatesOfGraphs: P17.2 of those that will be printed most.
func TestCertificatesOfGraphs(t *testing.T) {
	for text, g := range map[string]api.Graph{
		"p 3\n1 2\n0 2\n0 1\n": probe.Complete(3),
		"p 3\n\n\n\n":          probe.With(3),
		"p 0\n":                probe.With(0),
		"n 10\n1 2\n1 3\n1 4\n1 5\n2 3\n2 4\n2 5\n3 4\n3 5\n4 5\n": probe.Complete(6),
		"n 9\n0 3\n0 4\n0 5\n1 3\n1 4\n1 5\n2 3\n2 4\n2 5\n":       probe.TwoPart(3, 3),
	} {
		bothWays(t, "P17.2", shows(t, g), text)
	}
	for _, g := range probe.Small() {
		printedRightly(t, shows(t, g))
	}
	d := probe.Dice(1706)
	for _, g := range []api.Graph{d.Triangles(2000, 4000), probe.Grid(60, 70), d.Renamed(probe.Divided(probe.Complete(5), 3, 200)), probe.Beside(probe.TwoPart(3, 3), probe.Path(3000))} {
		printedRightly(t, shows(t, g))
	}
}

// TestNumbersOfEachLength: P17.2: the least and the greatest of each.
func TestNumbersOfEachLength(t *testing.T) {
	var all []int
	for n := 1; n < 1000000000; n *= 10 {
		all = append(all, n, 10*n-1)
	}
	for i, n := range all {
		bothWays(t, "P17.2", round([]int{n}), "p 1\n"+strconv.Itoa(n)+"\n")
		bothWays(t, "P17.2", round([]int{0, n, n}), "p 1\n0 "+strconv.Itoa(n)+" "+strconv.Itoa(n)+"\n")
		bothWays(t, "P17.2", part(0, n), "n 1\n0 "+strconv.Itoa(n)+"\n")
		for _, other := range all[i+1:] {
			if n < other {
				bothWays(t, "P17.2", part(n, other), "n 1\n"+strconv.Itoa(n)+" "+strconv.Itoa(other)+"\n")
			}
		}
	}
}
