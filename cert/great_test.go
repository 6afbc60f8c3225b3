package cert_test

import (
	"bytes"
	"slices"
	"strconv"
	"strings"
	"testing"

	"tangram/api"
	"tangram/cert"
	"tangram/probe"
)

// TestMaxText: texts of just as many bytes as there may be, and of one more.
func TestMaxText(t *testing.T) {
	zeros := make([]int, (api.MaxText-4)/2)
	full := "p 1\n" + strings.Repeat("0 ", len(zeros)-1) + "0\n"
	if len(full) != api.MaxText {
		t.Fatalf("the text has %d bytes", len(full))
	}
	bothWays(t, "P17.1", round(zeros), full)
	refuses(t, "P17.3", full[:len(full)-1], len(full)-1, api.ErrCertText)
	refuses(t, "P17.1", full+"\n", api.MaxText, api.ErrLong)
	unprinted(t, "P17.1", round(append(zeros, 0)), api.ErrLong)
	zeros[1] = 10
	unprinted(t, "P17.1", round(zeros), api.ErrLong)
	unprinted(t, "P17.1", round(slices.Concat(zeros[:len(zeros)-1], []int{0, 0})), api.ErrLong)
	text, is := written(round(zeros[:len(zeros)-1]))
	if !is || len(text) != api.MaxText-1 {
		t.Fatalf("the text has %d bytes", len(text))
	}
	bothWays(t, "P17.1", round(zeros[:len(zeros)-1]), text)
}

// TestMaxTextOfEdges: likewise.
func TestMaxTextOfEdges(t *testing.T) {
	const long = 1677720 // lines of 20 bytes; the head has 10, and the two first edges' lines have 4 and 18
	edges := part(0, 1, 1000000, 999999999).Edges
	for i := range long {
		edges = append(edges, api.Edge{U: 100000000 + i, V: 999999999})
	}
	c := api.Cert{Edges: edges}
	text, is := written(c)
	if !is || len(text) != api.MaxText {
		t.Fatalf("the text has %d bytes", len(text))
	}
	bothWays(t, "P17.1", c, text)
	edges[0].V = 10
	unprinted(t, "P17.1", c, api.ErrLong)
	longer, _ := written(c)
	refuses(t, "P17.1", longer, api.MaxText, api.ErrLong)
	edges[len(edges)-1].V = 100000000
	unprinted(t, "P17.1", c, api.ErrCertText)
}

// TestTooLong: too many bytes, whatever they are.
func TestTooLong(t *testing.T) {
	room := make([]byte, api.MaxText+1)
	for head, place := range map[string]int{
		"": 0, "q": 0, "p": 1, "p x": 2, "p 01": 2, "p 1\n": 5, "p 0\n": 4, "n 0\n": 4, "n 1\n0 1\n": 8, "n 1\n1 0": 6, "p 1\n5 1": 6, "n 2\n0 2\n0 1": 8,
	} {
		for _, fill := range []byte{' ', '0', '\n', 0xff} {
			copy(room, bytes.Repeat([]byte{fill}, len(room)))
			copy(room, head)
			refuses(t, "P17.1", string(room), api.MaxText, api.ErrLong)
			if fill == 0xff && head != "p 1\n" {
				refuses(t, "P17.1", string(room[:api.MaxText]), place, api.ErrCertText)
			}
		}
	}
	refuses(t, "P17.1", "p 1\n"+strings.Repeat("9", api.MaxText-4), 4, api.ErrCertText)
	refuses(t, "P17.1", "p 1\n"+strings.Repeat("0", api.MaxText-4), 4, api.ErrCertText)
	refuses(t, "P17.1", "p "+strings.Repeat("1", api.MaxText-2), 2, api.ErrCertText)
	refuses(t, "P17.1", "n 1\n0 "+strings.Repeat("1", api.MaxText-6), 6, api.ErrCertText)
}

// TestMaxLists: as many lists as there may be, and one more.
func TestMaxLists(t *testing.T) {
	none := make([][]int, api.MaxN)
	text := "p 1048576\n" + strings.Repeat("\n", api.MaxN)
	bothWays(t, "P17.1", round(none...), text)
	refuses(t, "P17.3", text[:len(text)-1], len(text)-1, api.ErrCertText)
	refuses(t, "P17.3", text+"\n", len(text), api.ErrCertText)
	unprinted(t, "P17.1", round(append(none, nil)...), api.ErrCertText)
	refuses(t, "P17.1", "p 1048577\n"+strings.Repeat("\n", api.MaxN+1), 2, api.ErrCertText)
	unprinted(t, "P17.1", round(slices.Repeat([][]int{{0, 999999999, 999999999, 999999999}}, api.MaxN+1)...), api.ErrCertText)
	none[api.MaxN-1] = []int{-1}
	unprinted(t, "P17.1", round(none...), api.ErrCertText)
}

// TestMaxListsAndMaxText: both limits at once: lines of 30 bytes, and the rest in the first list.
func TestMaxListsAndMaxText(t *testing.T) {
	lists := slices.Repeat([][]int{{0, 999999999, 999999999, 9999999}}, api.MaxN)
	rest := api.MaxText - len("p 1048576\n") - 30*api.MaxN
	lists[0] = append(slices.Clone(lists[0]), make([]int, rest/2)...)
	text, is := written(round(lists...))
	if !is || len(text) != api.MaxText {
		t.Fatalf("the text has %d bytes", len(text))
	}
	bothWays(t, "P17.1", round(lists...), text)
	lists[api.MaxN-1] = []int{0, 999999999, 999999999, 99999999}
	unprinted(t, "P17.1", round(lists...), api.ErrLong)
	lists[api.MaxN-1] = []int{1, 999999999, 999999999, 0}
	unprinted(t, "P17.1", round(lists...), api.ErrCertText)
}

// TestMaxEdges: so many have no text that is short enough, but no fault beside.
func TestMaxEdges(t *testing.T) {
	full := probe.Dense(api.MaxEdges).Edges
	unprinted(t, "P17.1", api.Cert{Edges: full}, api.ErrLong)
	unprinted(t, "P17.1", api.Cert{Edges: probe.Dense(api.MaxEdges + 1).Edges}, api.ErrCertText)
	last := full[api.MaxEdges-1]
	for _, e := range []api.Edge{full[api.MaxEdges-2], {U: last.V, V: last.V}, {U: last.U, V: 1000000000}, {U: -1, V: last.V}} {
		full[api.MaxEdges-1] = e
		unprinted(t, "P17.1", api.Cert{Edges: full}, api.ErrCertText)
	}
	bothWays(t, "P17.1", api.Cert{Edges: full[:2000000]}, slowly(full[:2000000]))
}

func slowly(edges []api.Edge) string {
	text := []byte("n " + strconv.Itoa(len(edges)) + "\n")
	for _, e := range edges {
		text = append(text, strconv.Itoa(e.U)+" "+strconv.Itoa(e.V)+"\n"...)
	}
	return string(text)
}

// TestMaxEdgesWanted: the head may say as many, and so many lines are wanted then.
func TestMaxEdgesWanted(t *testing.T) {
	edges := probe.Dense(3000000).Edges
	text := strings.Replace(slowly(edges), "n 3000000\n", "n 4194304\n", 1)
	refuses(t, "P17.1", text, len(text), api.ErrCertText)
	refuses(t, "P17.1", text+"\n", len(text), api.ErrCertText)
	refuses(t, "P17.1", strings.Replace(text, "n 4194304\n", "n 4194305\n", 1), 2, api.ErrCertText)
}

// TestOneListManyTimes: far more numbers than a text can have, all of which are looked at.
func TestOneListManyTimes(t *testing.T) {
	list := make([]int, 1<<20)
	lists := slices.Repeat([][]int{list}, 1<<7)
	unprinted(t, "P17.1", round(lists...), api.ErrLong)
	unprinted(t, "P17.1", round(append(lists, []int{1, 0})...), api.ErrCertText)
	unprinted(t, "P17.1", round(make([]int, 1<<26)), api.ErrLong)
	list[len(list)-1] = -1
	unprinted(t, "P17.1", round(lists...), api.ErrCertText)
}

// TestGreatPart: a certificate of many edges, its beginning and what stands behind it.
func TestGreatPart(t *testing.T) {
	text := slowly(probe.Path(api.MaxN).Edges)
	parses(t, "P17.2", text, api.Cert{Edges: probe.Path(api.MaxN).Edges})
	if s, code := cert.Print(api.Cert{Edges: probe.Path(api.MaxN).Edges}); s != text || code != api.OK {
		t.Errorf("P17.2: Print of a long path: %d bytes, %d", len(s), code)
	}
	refuses(t, "P17.3", text[:len(text)-1], len(text)-1, api.ErrCertText)
	refuses(t, "P17.3", text+text, len(text), api.ErrCertText)
}
