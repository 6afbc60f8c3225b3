package cert_test

import (
	"bytes"
	"slices"
	"sync"
	"testing"

	"tangram/api"
	"tangram/cert"
	"tangram/probe"
)

// TestNilAndEmpty: R4: lists without elements may be nil or empty; no lists are another thing than one empty list.
func TestNilAndEmpty(t *testing.T) {
	for _, around := range [][][]int{nil, {}, make([][]int, 0, 4)} {
		for _, edges := range [][]api.Edge{nil, {}, make([]api.Edge, 0, 4)} {
			bothWays(t, "R4", api.Cert{Planar: true, Around: around, Edges: edges}, "p 0\n")
			bothWays(t, "R4", api.Cert{Around: around, Edges: edges}, "n 0\n")
		}
		bothWays(t, "R4", api.Cert{Around: around, Edges: []api.Edge{{U: 0, V: 1}}}, "n 1\n0 1\n")
	}
	for _, empty := range [][]int{nil, {}, make([]int, 0, 4)} {
		bothWays(t, "R4", api.Cert{Planar: true, Around: [][]int{empty}, Edges: []api.Edge{}}, "p 1\n\n")
		bothWays(t, "R4", round([]int{2}, empty, []int{0}, empty), "p 4\n2\n\n0\n\n")
		unprinted(t, "R4", api.Cert{Around: [][]int{empty}}, api.ErrCertText)
	}
	parses(t, "R4", "p 0\n", round())
	refuses(t, "R4", string([]byte(nil)), 0, api.ErrCertText)
	if _, at, code := cert.Parse(nil); at != 0 || code != api.ErrCertText {
		t.Errorf("R4: Parse of nil: %d, %d", at, code)
	}
}

// handed is a certificate with spare room in all its lists, and these with that room.
type handed struct {
	c     api.Cert
	outer [][]int
	inner [][]int
	edges []api.Edge
}

func handing(c api.Cert) handed {
	x := handed{c: api.Cert{Planar: c.Planar}}
	var lists [][]int
	for _, list := range c.Around {
		list, whole := probe.Roomy(list, -9)
		lists, x.inner = append(lists, list), append(x.inner, whole)
	}
	x.c.Around, x.outer = probe.Roomy(lists, []int{-9})
	x.c.Edges, x.edges = probe.Roomy(c.Edges, api.Edge{U: -9, V: -9})
	return x
}

func (x handed) same(y handed) bool {
	return probe.SameLists(x.outer, y.outer) && probe.SameLists(x.inner, y.inner) && slices.Equal(x.edges, y.edges)
}

// many: certificates that have texts, and such as have none.
func many(d *probe.Dice) []api.Cert {
	all := []api.Cert{{}, round(), round([]int{1}, []int{0}, nil), round([]int{4, 9, 4, 7}), part(0, 1, 0, 4), round([]int{2, 1}), part(1, 0), {Planar: true, Edges: part(0, 1).Edges}}
	for range 100 {
		all = append(all, thrown(d), thrownCert(d))
	}
	return all
}

// TestCertificateUnchanged: P17.4, R5: with all spare room; of certificates that have no text, too.
func TestCertificateUnchanged(t *testing.T) {
	d := probe.Dice(1707)
	for _, c := range many(&d) {
		x, before := handing(c), handing(c)
		text, code := cert.Print(x.c)
		if !x.same(before) {
			t.Fatalf("P17.4: handed in was %+v, it is now %+v", before, x)
		}
		for _, lists := range [][][]int{x.inner, x.outer} {
			for _, list := range lists {
				probe.Spoil(list, -7)
			}
		}
		probe.Spoil(x.edges, api.Edge{U: -7, V: -7})
		if want, is := written(c); is && text != want || is != (code == api.OK) {
			t.Fatalf("P17.4: %v: the certificate written over, and its text is %q", c, text)
		}
	}
}

// TestBytesUnchanged: P17.4, R5: with the room behind them; of texts that are refused, too.
func TestBytesUnchanged(t *testing.T) {
	d := probe.Dice(1708)
	for range 300 {
		text, _ := written(thrown(&d))
		room := []byte(text + " 1\n2 3\n")
		before := bytes.Clone(room)
		for end := range len(room) + 1 {
			cert.Parse(room[:end])
			if !bytes.Equal(room, before) {
				t.Fatalf("P17.4: %q has been changed: %q", before[:end], room)
			}
		}
	}
}

// TestListsOwnMemory: P17.4, R5: each list of an answer is written over and appended to, with its spare room: the bytes are as they were, and so are the answer's other lists, an answer from before, and the next one.
func TestListsOwnMemory(t *testing.T) {
	d := probe.Dice(1709)
	for _, want := range many(&d) {
		text, is := written(want)
		if !is {
			continue
		}
		b := []byte(text)
		earlier, _, _ := cert.Parse(b)
		for v := range want.Around {
			got, _, _ := cert.Parse(b)
			probe.Spoil(got.Around[v], -7)
			got.Around[v] = want.Around[v]
			if !same(got, want) {
				t.Fatalf("P17.4: Parse(%q): the list of %d written over, and the answer is %v", text, v, got)
			}
		}
		got, _, _ := cert.Parse(b)
		probe.Spoil(got.Around, []int{-7})
		probe.Spoil(got.Edges, api.Edge{U: -7, V: -7})
		if !same(earlier, want) || string(b) != text {
			t.Fatalf("P17.4: Parse(%q): one answer written over, and another is %v", text, earlier)
		}
		parses(t, "R8", text, want)
	}
}

// TestNothingIsKept: P17.4, R5: what the caller writes later in the bytes is not to be seen in the answer, and is seen by the next call.
func TestNothingIsKept(t *testing.T) {
	d := probe.Dice(1710)
	for _, want := range many(&d) {
		text, is := written(want)
		if !is {
			continue
		}
		b := []byte(text)
		got, _, _ := cert.Parse(b)
		probe.Spoil(b, 'x')
		if !same(got, want) {
			t.Fatalf("P17.4: the bytes of %q written over, and the answer is %v", text, got)
		}
		refuses(t, "R8", string(b), 0, api.ErrCertText)
	}
}

// TestEarlierCalls: R8: what has been called before is not to be seen, calls that went wrong among it.
func TestEarlierCalls(t *testing.T) {
	d := probe.Dice(1711)
	all := many(&d)
	for range 3 {
		for _, c := range all {
			refuses(t, "R8", "p 2\n1 2\n3 1\n", 10, api.ErrCertText)
			unprinted(t, "R8", part(0, 2, 0, 1), api.ErrCertText)
			printedRightly(t, c)
			printedRightly(t, handing(c).c)
		}
		slices.Reverse(all)
	}
}

// TestSideBySide: R8: calls at the same time, of the same lists and bytes, keep out of each other's way.
func TestSideBySide(t *testing.T) {
	d := probe.Dice(1712)
	all := many(&d)
	wrong := make([]bool, 8)
	var workers sync.WaitGroup
	for worker := range wrong {
		workers.Go(func() {
			for _, c := range all {
				text, code := cert.Print(c)
				want, is := written(c)
				if is != (code == api.OK) || is && text != want {
					wrong[worker] = true
				}
				back, _, code := cert.Parse([]byte(text))
				if is && !same(back, c) || is != (code == api.OK) {
					wrong[worker] = true
				}
			}
		})
	}
	workers.Wait()
	if slices.Contains(wrong, true) {
		t.Error("R8: calls side by side answer something else")
	}
}
