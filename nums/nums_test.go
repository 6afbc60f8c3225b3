package nums_test

import (
	"bytes"
	"math"
	"regexp"
	"slices"
	"strconv"
	"strings"
	"testing"

	"tangram/api"
	"tangram/nums"
	"tangram/probe"
)

// answer is what Scan answers, as one thing.
type answer struct {
	tokens []api.Token
	at     int
	code   api.Errno
}

func scan(b []byte) answer {
	tokens, at, code := nums.Scan(b)
	return answer{tokens, at, code}
}

func (a answer) same(b answer) bool {
	return slices.Equal(a.tokens, b.tokens) && a.at == b.at && a.code == b.code
}

func num(at, end, n int) api.Token {
	return api.Token{Kind: api.TokenNum, At: at, End: end, N: n}
}

func line(at int) api.Token { return api.Token{Kind: api.TokenLine, At: at, End: at + 1} }

func end(at int) api.Token { return api.Token{Kind: api.TokenEnd, At: at, End: at} }

func right(tokens ...api.Token) answer { return answer{tokens: tokens} }

func wrong(at int, code api.Errno) answer { return answer{at: at, code: code} }

// The chapter's words over again, by other means than the scanner's: all faults and all tokens are sought apart from each other.
var (
	noPlace = regexp.MustCompile(`[^0-9 \t\r\n]`)
	runs    = regexp.MustCompile(`[0-9]+`)
	number  = regexp.MustCompile(`^(0|[1-9][0-9]{0,8})$`)
	pieces  = regexp.MustCompile(`[0-9]+|\n`)
)

func said(b []byte) answer {
	b = ascii(b)
	first := wrong(len(b)+1, api.OK)
	if p := noPlace.FindIndex(b); p != nil {
		first = wrong(p[0], api.ErrByte)
	}
	for _, p := range runs.FindAllIndex(b, -1) {
		if !number.Match(b[p[0]:p[1]]) && p[0] < first.at {
			first = wrong(p[0], api.ErrNumber)
		}
	}
	if first.code != api.OK {
		return first
	}
	var tokens []api.Token
	for _, p := range pieces.FindAllIndex(b, -1) {
		if b[p[0]] == '\n' {
			tokens = append(tokens, line(p[0]))
			continue
		}
		n, _ := strconv.Atoi(string(b[p[0]:p[1]]))
		tokens = append(tokens, num(p[0], p[1], n))
	}
	return right(append(tokens, end(len(b)))...)
}

// ascii: with 0x7f for each byte above it, since an expression would read several of these as one character.
func ascii(b []byte) []byte {
	out := bytes.Clone(b)
	for i := range out {
		if out[i] > 0x7f {
			out[i] = 0x7f
		}
	}
	return out
}

func TestScanOfExamples(t *testing.T) {
	for s, want := range map[string]answer{
		"":                       right(end(0)),
		"3 2\n":                  right(num(0, 1, 3), num(2, 3, 2), line(3), end(4)),
		" 10\t7":                 right(num(1, 3, 10), num(4, 5, 7), end(5)),
		"1\r\n":                  right(num(0, 1, 1), line(2), end(3)),
		"0 00":                   wrong(2, api.ErrNumber),
		"12x":                    wrong(2, api.ErrByte),
		"01x":                    wrong(0, api.ErrNumber),
		"x01":                    wrong(0, api.ErrByte),
		"999999999":              right(num(0, 9, 999999999), end(9)),
		"1000000000":             wrong(0, api.ErrNumber),
		"-1":                     wrong(0, api.ErrByte),
		"0":                      right(num(0, 1, 0), end(1)),
		"\n":                     right(line(0), end(1)),
		" \t\r":                  right(end(3)),
		"\n\n7\n":                right(line(0), line(1), num(2, 3, 7), line(3), end(4)),
		"12345678\n123456789":    right(num(0, 8, 12345678), line(8), num(9, 18, 123456789), end(18)),
		"100000000 1000000000":   wrong(10, api.ErrNumber),
		"0000000000":             wrong(0, api.ErrNumber),
		"012345678":              wrong(0, api.ErrNumber),
		"9223372036854775808":    wrong(0, api.ErrNumber),
		"18446744073709551617":   wrong(0, api.ErrNumber),
		"1 +2":                   wrong(2, api.ErrByte),
		"1.5":                    wrong(1, api.ErrByte),
		"1\v2":                   wrong(1, api.ErrByte),
		"1\f2":                   wrong(1, api.ErrByte),
		"1\x002":                 wrong(1, api.ErrByte),
		"1\u00a02":               wrong(1, api.ErrByte),
		"\xef\xbb\xbf1":          wrong(0, api.ErrByte),
		"1 \u0661":               wrong(2, api.ErrByte),
		"01 1234567890 x":        wrong(0, api.ErrNumber),
		"1 1234567890x 01":       wrong(2, api.ErrNumber),
		"1 2 / 01":               wrong(4, api.ErrByte),
		"1 2 : 01":               wrong(4, api.ErrByte),
		strings.Repeat("1", 400): wrong(0, api.ErrNumber),
	} {
		if got := scan([]byte(s)); !got.same(want) {
			t.Errorf("P1.1: Scan(%q): %v, want %v", s, got, want)
		}
	}
	if got := scan(nil); !got.same(right(end(0))) {
		t.Errorf("P1.1: Scan(nil): %v", got)
	}
}

func TestScanOfEveryByte(t *testing.T) {
	for c := range 256 {
		for _, b := range [][]byte{{byte(c)}, {'5', byte(c)}, {' ', byte(c), '6'}, {'\n', byte(c), 'x'}} {
			if got, want := scan(b), said(b); !got.same(want) {
				t.Errorf("P1.1: Scan(%q): %v, want %v", b, got, want)
			}
		}
		for d := range 256 {
			b := []byte{byte(c), byte(d)}
			if got, want := scan(b), said(b); !got.same(want) {
				t.Errorf("P1.1: Scan(%q): %v, want %v", b, got, want)
			}
		}
	}
}

func TestScanOfAllShortTexts(t *testing.T) {
	for _, s := range probe.Texts("01 \nx", 6) {
		if got, want := scan([]byte(s)), said([]byte(s)); !got.same(want) {
			t.Fatalf("P1.1: Scan(%q): %v, want %v", s, got, want)
		}
	}
}

func TestScanOfLongRuns(t *testing.T) {
	for digits := 1; digits <= 40; digits++ {
		for _, first := range "019" {
			for _, ahead := range []string{"", " ", "3\n", "x", "00 "} {
				for _, behind := range []string{"", "\t4", "y", "\n01"} {
					s := ahead + string(first) + strings.Repeat("9", digits-1) + behind
					if got, want := scan([]byte(s)), said([]byte(s)); !got.same(want) {
						t.Errorf("P1.1: Scan(%q): %v, want %v", s, got, want)
					}
				}
			}
		}
	}
}

func TestScanAtTheLimit(t *testing.T) {
	room := bytes.Repeat([]byte{' '}, api.MaxText+1)
	most := room[:api.MaxText]
	last := api.MaxText - 1
	for _, c := range []struct {
		tail string
		want answer
	}{
		{" ", right(end(api.MaxText))},
		{"\n", right(line(last), end(api.MaxText))},
		{" 123456789", right(num(api.MaxText-9, api.MaxText, 123456789), end(api.MaxText))},
		{"1234567890", wrong(api.MaxText-10, api.ErrNumber)},
		{"        00", wrong(api.MaxText-2, api.ErrNumber)},
		{"         x", wrong(last, api.ErrByte)},
	} {
		copy(most[api.MaxText-len(c.tail):], c.tail)
		if got := scan(most); !got.same(c.want) {
			t.Errorf("P1.1: Scan of MaxText bytes that end with %q: %v", c.tail, got)
		}
		if got := scan(room); !got.same(wrong(api.MaxText, api.ErrLong)) {
			t.Errorf("P1.1: Scan of MaxText + 1 bytes: %v", got)
		}
	}
	room[0] = 'x'
	if got := scan(room); !got.same(wrong(api.MaxText, api.ErrLong)) {
		t.Errorf("P1.1: too many bytes come ahead of a fault: %v", got)
	}
	if got := scan(make([]byte, api.MaxText+4096)); !got.same(wrong(api.MaxText, api.ErrLong)) {
		t.Errorf("P1.1: Scan of MaxText + 4096 bytes: %v", got)
	}
}

func FuzzScan(f *testing.F) {
	for _, s := range []string{"", "3 2\n", "0 00", "12x", "1000000000", " \t\r\n", "\xff", "-1"} {
		f.Add([]byte(s))
	}
	f.Fuzz(func(t *testing.T, b []byte) {
		if got, want := scan(b), said(b); !got.same(want) {
			t.Errorf("P1.1: Scan(%q): %v, want %v", b, got, want)
		}
	})
}

// written: the number's text, digit by digit; below 0 all the way, since the least int has no opposite.
func written(n int) string {
	sign := "-"
	if n >= 0 {
		sign, n = "", -n
	}
	text := ""
	for {
		text = string(rune('0'-n%10)) + text
		n /= 10
		if n == 0 {
			return sign + text
		}
	}
}

// someInts: round nought, the powers of ten and of two, and the ends.
func someInts() []int {
	list := []int{math.MinInt64, math.MinInt64 + 1, math.MaxInt64 - 1, math.MaxInt64}
	for n := -1100; n <= 1100; n++ {
		list = append(list, n)
	}
	for p := 1; p <= math.MaxInt64/10; p *= 10 {
		list = append(list, 10*p-1, 10*p, 10*p+1, 1-10*p, -10*p, -10*p-1)
	}
	for i := 11; i < 63; i++ {
		p := 1 << i
		list = append(list, p-1, p, p+1, 1-p, -p, -p-1)
	}
	return list
}

func TestText(t *testing.T) {
	for n, want := range map[int]string{0: "0", 1: "1", -1: "-1", 10: "10", -10: "-10", 999999999: "999999999", 1000000000: "1000000000", math.MinInt64: "-9223372036854775808", math.MaxInt64: "9223372036854775807"} {
		if got := nums.Text(n); got != want {
			t.Errorf("P1.2: Text(%d): %q, want %q", n, got, want)
		}
	}
	by := map[string]int{}
	for _, n := range someInts() {
		got := nums.Text(n)
		if got != written(n) {
			t.Errorf("P1.2: Text(%d): %q", n, got)
		}
		if other, ok := by[got]; ok && other != n {
			t.Errorf("P1.2: %d and %d have one Text", n, other)
		}
		by[got] = n
	}
}

func TestLine(t *testing.T) {
	for _, c := range []struct {
		ns   []int
		want string
	}{
		{nil, "\n"}, {[]int{}, "\n"}, {[]int{0}, "0\n"}, {[]int{-7}, "-7\n"}, {[]int{3, -1}, "3 -1\n"}, {[]int{0, 0, 0}, "0 0 0\n"}, {[]int{10, 2, 10}, "10 2 10\n"},
		{[]int{math.MinInt64, math.MaxInt64}, "-9223372036854775808 9223372036854775807\n"},
	} {
		if got := nums.Line(c.ns...); got != c.want {
			t.Errorf("P1.2: Line(%v): %q, want %q", c.ns, got, c.want)
		}
	}
	list := someInts()
	var parts []string
	for _, n := range list {
		parts = append(parts, nums.Text(n))
	}
	if nums.Line(list...) != strings.Join(parts, " ")+"\n" {
		t.Error("P1.2: Line of many numbers isn't their Texts with blanks between")
	}
}

// lineTokens: the tokens that Line of these numbers must have.
func lineTokens(ns []int) []api.Token {
	var tokens []api.Token
	at := 0
	for _, n := range ns {
		to := at + len(written(n))
		tokens = append(tokens, num(at, to, n))
		at = to + 1
	}
	if len(ns) == 0 {
		at = 1
	}
	return append(tokens, line(at-1), end(at))
}

func TestThereAndBack(t *testing.T) {
	lists := [][]int{nil, {0}, {999999999}, {0, 1, 9, 10, 99, 100, 99999999, 100000000, 999999999, 0}}
	var many []int
	for n := 0; n <= 999999999; n += 99991 {
		many = append(many, n)
	}
	for _, ns := range append(lists, many) {
		if got := scan([]byte(nums.Line(ns...))); !got.same(right(lineTokens(ns)...)) {
			t.Errorf("P1.3: Scan of Line of %d numbers doesn't give them back", len(ns))
		}
	}
	for _, ns := range [][]int{{-1}, {1000000000}, {1, 2, math.MaxInt64}} {
		if got := scan([]byte(nums.Line(ns...))); got.code == api.OK || len(got.tokens) != 0 {
			t.Errorf("P1.1: Scan of Line(%v): %v", ns, got)
		}
	}
}

func TestThereAndBackAtTheLimit(t *testing.T) {
	ns := slices.Repeat([]int{999999999}, api.MaxText/10)
	ns = append(ns, 7)
	text := []byte(nums.Line(ns...))
	if len(text) != api.MaxText {
		t.Fatalf("the line has %d bytes", len(text))
	}
	if got := scan(text); !got.same(right(lineTokens(ns)...)) {
		t.Error("P1.3: Scan of a Line of MaxText bytes doesn't give its numbers back")
	}
	if got := scan(append(text, '\n')); !got.same(wrong(api.MaxText, api.ErrLong)) {
		t.Errorf("P1.1: Scan of a line of MaxText + 1 bytes: %d tokens, %d, %v", len(got.tokens), got.at, got.code)
	}
}

func TestTwoTextsWithALineBetween(t *testing.T) {
	var whole []string
	for _, s := range probe.Texts("07 \t\n", 4) {
		if scan([]byte(s)).code == api.OK {
			whole = append(whole, s)
		}
	}
	for _, a := range whole {
		for _, b := range whole {
			first, second := scan([]byte(a)).tokens, scan([]byte(b)).tokens
			want := append(slices.Clone(first[:len(first)-1]), line(len(a)))
			for _, k := range second {
				k.At += len(a) + 1
				k.End += len(a) + 1
				want = append(want, k)
			}
			if got := scan([]byte(a + "\n" + b)); !got.same(right(want...)) {
				t.Fatalf("P1.3: Scan of %q, a line's end, %q: %v, want %v", a, b, got, want)
			}
		}
	}
}

func TestTokensLieOneBehindTheOther(t *testing.T) {
	for _, s := range append(probe.Texts("05 \t\r\n", 5), "  12\t345 \r\n\n 6789\r\r", nums.Line(1, 22, 333)+" \n4") {
		got := scan([]byte(s))
		if got.code != api.OK {
			continue
		}
		at := 0
		for i, k := range got.tokens {
			last := i == len(got.tokens)-1
			if (k.Kind == api.TokenEnd) != last || (k.At == k.End) != last || k.At < at || k.End < k.At || k.End > len(s) {
				t.Fatalf("P1.4: Scan(%q): %v", s, got.tokens)
			}
			if strings.Trim(s[at:k.At], " \t\r") != "" {
				t.Fatalf("P1.4: Scan(%q): other bytes than blanks ahead of %v", s, k)
			}
			at = k.End
		}
		if at != len(s) {
			t.Fatalf("P1.4: Scan(%q): %v", s, got.tokens)
		}
	}
}

func TestBytesAreNotChanged(t *testing.T) {
	room := []byte("1 22\n333\t0\r\nspare room 01")
	before := bytes.Clone(room)
	for to := range len(room) + 1 {
		nums.Scan(room[:to])
		if !bytes.Equal(room, before) {
			t.Fatalf("P1.5: Scan of %q has changed it: %q", before[:to], room)
		}
	}
	ns := []int{5, -6, 7, 8, 9}
	nums.Line(ns[:3]...)
	if !slices.Equal(ns, []int{5, -6, 7, 8, 9}) {
		t.Errorf("P1.5: Line has changed its numbers: %v", ns)
	}
}

func TestAnswersAreNewMemory(t *testing.T) {
	b := []byte("1 22\n333")
	want := right(num(0, 1, 1), num(2, 4, 22), line(4), num(5, 8, 333), end(8))
	first, second := scan(b), scan(b)
	spoil := first.tokens[:cap(first.tokens)]
	for i := range spoil {
		spoil[i] = api.Token{Kind: 9, At: 9, End: 9, N: 9}
	}
	if !second.same(want) {
		t.Errorf("P1.5: two answers share memory: %v", second)
	}
	for i := range b {
		b[i] = 'x'
	}
	if !second.same(want) {
		t.Errorf("P1.5: an answer shares memory with the bytes: %v", second)
	}
	if got := scan([]byte("1 22\n333")); !got.same(want) {
		t.Errorf("R8: an earlier call is to be seen in a later one: %v", got)
	}
}
