package nums

import "tangram/api"

// fault is what a scanner gives up with.
type fault struct {
	at   int
	code api.Errno
}

// scanner goes through a text once; at is the place of the first byte that it hasn't passed.
type scanner struct {
	text []byte
	at   int
}

// count: how many tokens the text has, its end among them.
func count(text []byte) int {
	s := scanner{text: text}
	n := 1
	for s.next().Kind != api.TokenEnd {
		n++
	}
	return n
}

// gather: the first n tokens of the text.
func gather(text []byte, n int) []api.Token {
	s := scanner{text: text}
	tokens := make([]api.Token, n)
	for i := range tokens {
		tokens[i] = s.next()
	}
	return tokens
}

// next: the next token; behind the last one the end, again and again.
func (s *scanner) next() api.Token {
	s.pass(blank)
	at := s.at
	switch {
	case at == len(s.text):
		return api.Token{Kind: api.TokenEnd, At: at, End: at}
	case digit(s.text[at]):
		return s.number()
	case s.text[at] == '\n':
		s.at++
		return api.Token{Kind: api.TokenLine, At: at, End: s.at}
	}
	panic(fault{at, api.ErrByte})
}

// number: the token of the run that begins here.
func (s *scanner) number() api.Token {
	at := s.at
	s.pass(digit)
	run := s.text[at:s.at]
	if len(run) > api.MaxDigits || len(run) > 1 && run[0] == '0' {
		panic(fault{at, api.ErrNumber})
	}
	return api.Token{Kind: api.TokenNum, At: at, End: s.at, N: value(run)}
}

// pass goes behind all bytes of a kind that stand here.
func (s *scanner) pass(kind func(byte) bool) {
	for s.at < len(s.text) && kind(s.text[s.at]) {
		s.at++
	}
}

func value(digits []byte) int {
	n := 0
	for _, d := range digits {
		n = 10*n + int(d-'0')
	}
	return n
}

func digit(c byte) bool { return '0' <= c && c <= '9' }

func blank(c byte) bool { return c == ' ' || c == '\t' || c == '\r' }
