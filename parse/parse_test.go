package parse_test

import (
	"bytes"
	"regexp"
	"slices"
	"strconv"
	"strings"
	"testing"

	"tangram/api"
	"tangram/nums"
	"tangram/parse"
	"tangram/probe"
)

// answer is what Raw answers, as one thing.
type answer struct {
	n     int
	pairs [][2]int
	fault api.Reject
}

func raw(b []byte) answer {
	r, fault := parse.Raw(b)
	return answer{r.N, r.Pairs, fault}
}

func (a answer) same(b answer) bool {
	return a.n == b.n && slices.Equal(a.pairs, b.pairs) && a.fault == b.fault
}

func right(n int, pairs ...[2]int) answer { return answer{n: n, pairs: pairs} }

func wrong(code api.Errno, at int) answer { return answer{fault: api.Reject{Code: code, At: at}} }

// agree: Raw of the text is as wanted, and Accepts says the same.
func agree(t *testing.T, promise string, b []byte, want answer) {
	t.Helper()
	if got := raw(b); !got.same(want) {
		t.Errorf("%s: Raw of %s: %v, want %v", promise, brief(b), shown(got), shown(want))
	}
	if parse.Accepts(b) != (want.fault.Code == api.OK) {
		t.Errorf("%s: Accepts of %s: %v", promise, brief(b), parse.Accepts(b))
	}
}

func brief(b []byte) string {
	if len(b) <= 200 {
		return strconv.Quote(string(b))
	}
	return strconv.Quote(string(b[:60])) + " .. " + strconv.Quote(string(b[len(b)-60:]))
}

func shown(a answer) answer {
	if len(a.pairs) > 20 {
		a.pairs = a.pairs[:20]
	}
	return a
}

// The chapter's words over again, by other means than the reader's: the text is cut at its line's ends, and every row of the table is asked of every line, apart from the others.
var number = regexp.MustCompile(`[0-9]+`)

type word struct{ n, at int }

func said(b []byte) answer {
	if _, at, code := nums.Scan(b); code != api.OK {
		return wrong(code, at)
	}
	var lines [][]word
	at := 0
	for line := range strings.SplitSeq(string(b), "\n") {
		var words []word
		for _, p := range number.FindAllStringIndex(line, -1) {
			n, _ := strconv.Atoi(line[p[0]:p[1]])
			words = append(words, word{n, at + p[0]})
		}
		if words != nil {
			lines = append(lines, words)
		}
		at += len(line) + 1
	}
	return meant(lines, len(b))
}

func meant(lines [][]word, end int) answer {
	if len(lines) == 0 {
		return wrong(api.ErrHeader, end)
	}
	head := lines[0]
	if len(head) != 2 {
		return wrong(api.ErrHeader, head[0].at)
	}
	if head[0].n > 1048576 {
		return wrong(api.ErrN, head[0].at)
	}
	if head[1].n > 2097152 {
		return wrong(api.ErrM, head[1].at)
	}
	var pairs [][2]int
	for i, line := range lines[1:] {
		if i >= head[1].n {
			return wrong(api.ErrMany, line[0].at)
		}
		if len(line) != 2 {
			return wrong(api.ErrPair, line[0].at)
		}
		for _, w := range line {
			if w.n > head[0].n-1 {
				return wrong(api.ErrVertex, w.at)
			}
		}
		pairs = append(pairs, [2]int{line[0].n, line[1].n})
	}
	if len(lines)-1 < head[1].n {
		return wrong(api.ErrFew, end)
	}
	return right(head[0].n, pairs...)
}

// write: the header and the pairs, line by line.
func write(n, m int, pairs [][2]int) []byte {
	b := []byte(nums.Line(n, m))
	for _, p := range pairs {
		b = append(b, nums.Line(p[0], p[1])...)
	}
	return b
}

func TestRawOfExamples(t *testing.T) {
	for s, want := range map[string]answer{
		"3 2|0 1|2 2|":      right(3, [2]int{0, 1}, [2]int{2, 2}),
		"||3 2||0 1|2 0":    right(3, [2]int{0, 1}, [2]int{2, 0}),
		"0 0":               right(0),
		"":                  wrong(api.ErrHeader, 0),
		"||":                wrong(api.ErrHeader, 2),
		"3|0 1":             wrong(api.ErrHeader, 0),
		" 3 1 1|0 1":        wrong(api.ErrHeader, 1),
		"1048577 9999999|0": wrong(api.ErrN, 0),
		"3 2097153|":        wrong(api.ErrM, 2),
		"3 1|0|":            wrong(api.ErrPair, 4),
		"3 1|0 3|":          wrong(api.ErrVertex, 6),
		"3 1|3 4 5|":        wrong(api.ErrPair, 4),
		"3 1|0 1|0|":        wrong(api.ErrMany, 8),
		"3 2|0 1|":          wrong(api.ErrFew, 8),
		"3 2|7 1|x":         wrong(api.ErrByte, 8),
	} {
		agree(t, "P2.1", []byte(strings.ReplaceAll(s, "|", "\n")), want)
	}
}

func TestRawOfGraphs(t *testing.T) {
	for s, want := range map[string]answer{
		"0 0|":                                right(0),
		"1 0":                                 right(1),
		"||| 7 0 |||":                         right(7),
		"1 1|0 0":                             right(1, [2]int{0, 0}),
		"2 4|0 1|1 0|0 1|1 1|":                right(2, [2]int{0, 1}, [2]int{1, 0}, [2]int{0, 1}, [2]int{1, 1}),
		"3 3|0 1|1 2|2 0|":                    right(3, [2]int{0, 1}, [2]int{1, 2}, [2]int{2, 0}),
		"\t3  1\r|\r| 2 \t 1 |\r\r":           right(3, [2]int{2, 1}),
		"1048576 1|1048575 0":                 right(1048576, [2]int{1048575, 0}),
		"1048576 1|0 1048575|":                right(1048576, [2]int{0, 1048575}),
		"12 2|11 10|9 11|":                    right(12, [2]int{11, 10}, [2]int{9, 11}),
		strings.Repeat("|", 5000) + "4 1|3 0": right(4, [2]int{3, 0}),
	} {
		agree(t, "P2.1", []byte(strings.ReplaceAll(s, "|", "\n")), want)
	}
	agree(t, "P2.1", nil, wrong(api.ErrHeader, 0))
}

func TestEachFault(t *testing.T) {
	for s, want := range map[string]answer{
		"|":                   wrong(api.ErrHeader, 1),
		" \t\r":               wrong(api.ErrHeader, 3),
		" | |":                wrong(api.ErrHeader, 4),
		"| 3":                 wrong(api.ErrHeader, 2),
		"3":                   wrong(api.ErrHeader, 0),
		"||  0 0 0":           wrong(api.ErrHeader, 4),
		"3|1|0 1":             wrong(api.ErrHeader, 0),
		"1048577 0":           wrong(api.ErrN, 0),
		"| 999999999 0":       wrong(api.ErrN, 2),
		"0 2097153":           wrong(api.ErrM, 2),
		"1048576  999999999|": wrong(api.ErrM, 9),
		"0 2097152":           wrong(api.ErrFew, 9),
		"0 1":                 wrong(api.ErrFew, 3),
		"0 1||":               wrong(api.ErrFew, 5),
		"5 3|0 1|1 2|  ":      wrong(api.ErrFew, 14),
		"0 0|0 0":             wrong(api.ErrMany, 4),
		"5 0|| 1 2":           wrong(api.ErrMany, 6),
		"5 1|0 1|1 2|2 3":     wrong(api.ErrMany, 8),
		"5 2|0 1| 1|":         wrong(api.ErrPair, 9),
		"5 2|0 1|1 2 3|":      wrong(api.ErrPair, 8),
		"5 1|0|1":             wrong(api.ErrPair, 4),
		"0 1|0 0":             wrong(api.ErrVertex, 4),
		"5 1|5 0":             wrong(api.ErrVertex, 4),
		"5 1| 4  5":           wrong(api.ErrVertex, 8),
		"5 2|0 1|4 999999999": wrong(api.ErrVertex, 10),
		"1048576 1|1048576 0": wrong(api.ErrVertex, 10),
	} {
		agree(t, "P2.1", []byte(strings.ReplaceAll(s, "|", "\n")), want)
	}
}

func TestTheFirstOfTwoFaults(t *testing.T) {
	for s, want := range map[string]answer{
		// In one line: by the order of the table.
		"1048577 2097153 0": wrong(api.ErrHeader, 0),
		"1048577":           wrong(api.ErrHeader, 0),
		"1048577 2097153":   wrong(api.ErrN, 0),
		"5 0|0 1 2":         wrong(api.ErrMany, 4),
		"5 0|0 5":           wrong(api.ErrMany, 4),
		"5 1|9":             wrong(api.ErrPair, 4),
		"5 1|0 9 9":         wrong(api.ErrPair, 4),
		"5 1|5 6":           wrong(api.ErrVertex, 4),
		"5 1|6 5":           wrong(api.ErrVertex, 4),
		// In two lines: the first line's, whichever stands first in the table.
		"5 2097153|5":   wrong(api.ErrM, 2),
		"5|0 1|0 1 2":   wrong(api.ErrHeader, 0),
		"1048577 0|0 0": wrong(api.ErrN, 0),
		"5 1|0 5|0 1":   wrong(api.ErrVertex, 6),
		"5 2|0 5|0":     wrong(api.ErrVertex, 6),
		"5 2|0|0 5":     wrong(api.ErrPair, 4),
		"5 1|0|0 1":     wrong(api.ErrPair, 4),
		"5 1|0 1|0|0 5": wrong(api.ErrMany, 8),
		// Ahead of what the end of all tells.
		"5 3|0 5":   wrong(api.ErrVertex, 6),
		"5 3|0 1|0": wrong(api.ErrPair, 8),
		// What nums.Scan finds comes ahead of all, wherever it stands.
		"x":                      wrong(api.ErrByte, 0),
		"3|0 1|-":                wrong(api.ErrByte, 6),
		"1048577 0|.":            wrong(api.ErrByte, 10),
		"3 2097153|0 01":         wrong(api.ErrNumber, 12),
		"5 0|0 1|1234567890":     wrong(api.ErrNumber, 8),
		"5 1|0|,":                wrong(api.ErrByte, 6),
		"5 1|7 7|00":             wrong(api.ErrNumber, 8),
		"5 2|0 1|:":              wrong(api.ErrByte, 8),
		"5 1|00 x":               wrong(api.ErrNumber, 4),
		"5 1|x 00":               wrong(api.ErrByte, 4),
		"\xff":                   wrong(api.ErrByte, 0),
		"10000000000 1|0 0":      wrong(api.ErrNumber, 0),
		"+3 0":                   wrong(api.ErrByte, 0),
		"3 1|0 1|\x00":           wrong(api.ErrByte, 8),
		"3 1|0 \v1|":             wrong(api.ErrByte, 6),
		"3,1":                    wrong(api.ErrByte, 1),
		"3 1|0-1":                wrong(api.ErrByte, 5),
		"\xef\xbb\xbf3 1|0 1":    wrong(api.ErrByte, 0),
		"# a triangle|3 3|0 1|.": wrong(api.ErrByte, 0),
	} {
		agree(t, "P2.1", []byte(strings.ReplaceAll(s, "|", "\n")), want)
	}
}

func TestRawOfAllShortTexts(t *testing.T) {
	for _, s := range probe.Texts("01 \n", 8) {
		if got, want := raw([]byte(s)), said([]byte(s)); !got.same(want) {
			t.Fatalf("P2.1: Raw(%q): %v, want %v", s, got, want)
		}
	}
	for _, behind := range probe.Texts("02 \nx", 6) {
		s := "2 2\n" + behind
		if got, want := raw([]byte(s)), said([]byte(s)); !got.same(want) {
			t.Fatalf("P2.1: Raw(%q): %v, want %v", s, got, want)
		}
	}
}

// numbersOfLines: texts of some lines, each of none to three numbers; the header among them.
func numbersOfLines(d *probe.Dice) [][]int {
	lines := make([][]int, d.Below(6))
	for i := range lines {
		most := 3
		if d.Below(3) > 0 {
			most = 2
		}
		for j := 0; j < most; j++ {
			lines[i] = append(lines[i], d.Below(4))
		}
		if d.Below(8) == 0 {
			lines[i] = lines[i][:d.Below(2)]
		}
	}
	if len(lines) > 0 && d.Below(4) > 0 {
		lines[0] = []int{d.Below(5), len(lines) - 1}
	}
	return lines
}

func TestRawOfManyTexts(t *testing.T) {
	var d probe.Dice
	codes := map[api.Errno]int{}
	for range 200000 {
		var b []byte
		for _, line := range numbersOfLines(&d) {
			b = append(b, nums.Line(line...)...)
		}
		want := said(b)
		codes[want.fault.Code]++
		if got := raw(b); !got.same(want) {
			t.Fatalf("P2.1: Raw(%q): %v, want %v", b, got, want)
		}
	}
	for _, code := range []api.Errno{api.OK, api.ErrHeader, api.ErrPair, api.ErrVertex, api.ErrFew, api.ErrMany} {
		if codes[code] < 100 {
			t.Errorf("the texts have code %d only %d times", code, codes[code])
		}
	}
}

func FuzzRaw(f *testing.F) {
	for _, s := range []string{"", "\n\n", "3 2\n0 1\n2 2\n", "3 1\n0 1\n0\n", "1048577 9999999\n0", "3 2097153\n", "3 1\n0 3\n", "3 2\n7 1\nx"} {
		f.Add([]byte(s))
	}
	f.Fuzz(func(t *testing.T, b []byte) {
		if got, want := raw(b), said(b); !got.same(want) {
			t.Errorf("P2.1: Raw(%q): %v, want %v", b, got, want)
		}
	})
}

func TestAtMaxBytes(t *testing.T) {
	room := bytes.Repeat([]byte{' '}, api.MaxBytes+1)
	most := room[:api.MaxBytes]
	for _, c := range []struct {
		head, tail string
		want       answer
	}{
		{"", " ", wrong(api.ErrHeader, api.MaxBytes)},
		{"", "\n", wrong(api.ErrHeader, api.MaxBytes)},
		{"3 1\n", "\n0 2", right(3, [2]int{0, 2})},
		{"3 1\n", "\n0 2\n", right(3, [2]int{0, 2})},
		{"3 1\n0 1", "\n0 2", wrong(api.ErrMany, api.MaxBytes-3)},
		{"3 1\n0 1", " 2", wrong(api.ErrPair, 4)},
		{"3 2\n0 1", " ", wrong(api.ErrFew, api.MaxBytes)},
		{"", "3", wrong(api.ErrHeader, api.MaxBytes-1)},
		{"x", "y", wrong(api.ErrByte, 0)},
		{"3", "00", wrong(api.ErrNumber, api.MaxBytes-2)},
	} {
		for i := range room {
			room[i] = ' '
		}
		copy(most, c.head)
		copy(most[api.MaxBytes-len(c.tail):], c.tail)
		agree(t, "P2.1", most, c.want)
		for _, b := range " \nx0" {
			room[api.MaxBytes] = byte(b)
			agree(t, "P2.1", room, wrong(api.ErrLong, api.MaxBytes))
		}
	}
	agree(t, "P2.1", bytes.Repeat([]byte{'\n'}, api.MaxBytes), wrong(api.ErrHeader, api.MaxBytes))
	agree(t, "P2.1", make([]byte, api.MaxText), wrong(api.ErrLong, api.MaxBytes))
	agree(t, "P2.1", make([]byte, api.MaxText+1), wrong(api.ErrLong, api.MaxBytes))
}

func TestAtMaxNAndMaxM(t *testing.T) {
	agree(t, "P2.1", []byte("1048576 0"), right(api.MaxN))
	agree(t, "P2.1", []byte("1048577 0"), wrong(api.ErrN, 0))
	many := slices.Repeat([][2]int{{0, 0}}, api.MaxM)
	full := write(1, api.MaxM, many)
	agree(t, "P2.1", full, right(1, many...))
	agree(t, "P2.1", write(1, api.MaxM, many[1:]), wrong(api.ErrFew, len(full)-4))
	agree(t, "P2.1", append(full, "0 0"...), wrong(api.ErrMany, len(full)))
	agree(t, "P2.1", write(1, api.MaxM+1, many), wrong(api.ErrM, 2))
	agree(t, "P2.1", write(1, api.MaxM+1, append(many, many[0])), wrong(api.ErrM, 2))
}

// laidOut: the lines, with blanks and further line's ends thrown in, and the place of each number.
func laidOut(lines [][]int, d *probe.Dice) ([]byte, [][]int) {
	var b []byte
	fill := func(with string, least int) {
		for range least + d.Below(3) {
			b = append(b, with[d.Below(len(with))])
		}
	}
	places := make([][]int, len(lines))
	for i, line := range lines {
		if i > 0 {
			b = append(b, '\n')
		}
		fill(" \t\r\n", 0)
		for j, n := range line {
			if j > 0 {
				fill(" \t\r", 1)
			}
			places[i] = append(places[i], len(b))
			b = append(b, nums.Text(n)...)
		}
		fill(" \t\r", 0)
	}
	fill(" \t\r\n", 0)
	return b, places
}

// spot: which number of which line stands at this place; the end of all is behind the last line.
func spot(places [][]int, end, at int) (int, int) {
	for i, line := range places {
		if j := slices.Index(line, at); j >= 0 {
			return i, j
		}
	}
	if at == end {
		return len(places), 0
	}
	return -1, -1
}

func TestBlanksAndFurtherLinesChangeNothing(t *testing.T) {
	d := probe.Dice(2)
	for range 20000 {
		lines := slices.DeleteFunc(numbersOfLines(&d), func(line []int) bool { return len(line) == 0 })
		plain := []byte{}
		var places [][]int
		for _, line := range lines {
			at := len(plain)
			var row []int
			for _, n := range line {
				row = append(row, at)
				at += len(nums.Text(n)) + 1
			}
			places = append(places, row)
			plain = append(plain, nums.Line(line...)...)
		}
		first := raw(plain)
		i, j := spot(places, len(plain), first.fault.At)
		for range 4 {
			b, moved := laidOut(lines, &d)
			got := raw(b)
			if got.n != first.n || !slices.Equal(got.pairs, first.pairs) || got.fault.Code != first.fault.Code {
				t.Fatalf("P2.2: Raw(%q): %v, but Raw(%q): %v", b, got, plain, first)
			}
			if got.fault.Code == api.OK && got.fault.At == 0 {
				continue
			}
			if k, l := spot(moved, len(b), got.fault.At); k < 0 || k != i || l != j {
				t.Fatalf("P2.2: Raw(%q): %v, but Raw(%q): %v", b, got, plain, first)
			}
		}
	}
}

func TestThereAndBack(t *testing.T) {
	d := probe.Dice(3)
	for _, n := range []int{1, 2, 3, 10, 11, 1000, 99999, api.MaxN - 1, api.MaxN} {
		for _, m := range []int{0, 1, 2, 5, 100, 2000} {
			pairs := d.Pairs(n, m)
			if m > 2 {
				pairs[m-1], pairs[0], pairs[1] = [2]int{n - 1, n - 1}, [2]int{n - 1, 0}, [2]int{0, n - 1}
			}
			agree(t, "P2.3", write(n, m, pairs), right(n, pairs...))
		}
	}
	agree(t, "P2.3", write(0, 0, nil), right(0))
	for n := 1; n <= 4; n++ {
		for u := range n {
			for v := range n {
				agree(t, "P2.3", write(n, 1, [][2]int{{u, v}}), right(n, [2]int{u, v}))
			}
		}
	}
}

func TestThereAndBackAtTheLimit(t *testing.T) {
	// The longest lines have 16 bytes, so that these and the shortest ones together fill MaxBytes to the last byte.
	long, short := [2]int{api.MaxN - 1, api.MaxN - 2}, [2]int{0, 0}
	count := (api.MaxBytes - 64) / 16
	pairs := slices.Repeat([][2]int{long}, count)
	for {
		if b := write(api.MaxN, len(pairs), pairs); len(b) > api.MaxBytes-4 {
			break
		}
		pairs = append(pairs, short)
	}
	b := write(api.MaxN, len(pairs), pairs)
	if len(b) > api.MaxBytes || len(b) < api.MaxBytes-4 {
		t.Fatalf("the text has %d bytes", len(b))
	}
	agree(t, "P2.3", b, right(api.MaxN, pairs...))
	full := append(b, bytes.Repeat([]byte{'\n'}, api.MaxBytes-len(b))...)
	agree(t, "P2.3", full, right(api.MaxN, pairs...))
	agree(t, "P2.1", append(full, '\n'), wrong(api.ErrLong, api.MaxBytes))
}

func TestOneLineMoreAndOneLess(t *testing.T) {
	d := probe.Dice(4)
	for range 3000 {
		n, m := 1+d.Below(12), d.Below(6)
		pairs := d.Pairs(n, m)
		b := write(n, m, pairs)
		for _, more := range []string{"0 0", "0 0\n", "\n 999999999 0\n", " \n\n7 8\n9\n"} {
			at := len(b) + strings.IndexAny(more, "0123456789")
			agree(t, "P2.4", append(bytes.Clone(b), more...), wrong(api.ErrMany, at))
		}
		open := bytes.TrimSuffix(b, []byte("\n"))
		agree(t, "P2.4", append(bytes.Clone(open), "\n0 0"...), wrong(api.ErrMany, len(open)+1))
		if m > 0 {
			less := b[:bytes.LastIndexByte(open, '\n')+1]
			agree(t, "P2.4", less, wrong(api.ErrFew, len(less)))
			agree(t, "P2.4", append(bytes.Clone(less), "\n \n"...), wrong(api.ErrFew, len(less)+3))
		}
	}
}

func TestBytesAreNotChanged(t *testing.T) {
	room := []byte("\n3 2\n\n0 1\t\r\n2 0\nspare room 01")
	before := bytes.Clone(room)
	for to := range len(room) + 1 {
		parse.Raw(room[:to])
		parse.Accepts(room[:to])
		if !bytes.Equal(room, before) {
			t.Fatalf("P2.5: %q has been changed: %q", before[:to], room)
		}
	}
}

func TestPairsAreNewMemory(t *testing.T) {
	b := []byte("9 3\n0 1\n2 2\n8 7\n")
	want := right(9, [2]int{0, 1}, [2]int{2, 2}, [2]int{8, 7})
	first, second := raw(b), raw(b)
	spoil := first.pairs[:cap(first.pairs)]
	for i := range spoil {
		spoil[i] = [2]int{-1, -1}
	}
	if !second.same(want) {
		t.Errorf("P2.5: two answers share memory: %v", second)
	}
	for i := range b {
		b[i] = 'x'
	}
	if !second.same(want) {
		t.Errorf("P2.5: an answer shares memory with the bytes: %v", second)
	}
	if got := raw([]byte("9 3\n0 1\n2 2\n8 7\n")); !got.same(want) {
		t.Errorf("R8: an earlier call is to be seen in a later one: %v", got)
	}
}
