package parse

import "tangram/api"

// reader holds what the lines so far have said.
type reader struct {
	begun bool // the header is behind it
	n, m  int
	pairs [][2]int
}

// read goes through the lines till the first fault, or to the end of all.
func read(tokens []api.Token) (api.Raw, api.Reject) {
	var r reader
	var fault api.Reject
	begin := 0
lines:
	for i, token := range tokens {
		numbers := tokens[begin:i]
		switch {
		case token.Kind == api.TokenNum:
			continue lines
		case len(numbers) > 0:
			fault = r.line(numbers)
		}
		switch {
		case fault.Code != api.OK:
			break lines
		case token.Kind == api.TokenEnd:
			fault = r.end(token)
			break lines
		}
		begin = i + 1
	}
	if fault.Code != api.OK {
		return api.Raw{}, fault
	}
	return api.Raw{N: r.n, Pairs: r.pairs}, fault
}

// line takes the numbers of one line; it has one at least.
func (r *reader) line(numbers []api.Token) api.Reject {
	if !r.begun {
		return r.header(numbers)
	}
	return r.edge(numbers)
}

func (r *reader) header(numbers []api.Token) api.Reject {
	switch {
	case len(numbers) != 2:
		return reject(api.ErrHeader, numbers[0])
	case numbers[0].N > api.MaxN:
		return reject(api.ErrN, numbers[0])
	case numbers[1].N > api.MaxM:
		return reject(api.ErrM, numbers[1])
	}
	r.begun, r.n, r.m = true, numbers[0].N, numbers[1].N
	return api.Reject{}
}

func (r *reader) edge(numbers []api.Token) api.Reject {
	switch {
	case len(r.pairs) == r.m:
		return reject(api.ErrMany, numbers[0])
	case len(numbers) != 2:
		return reject(api.ErrPair, numbers[0])
	case numbers[0].N >= r.n:
		return reject(api.ErrVertex, numbers[0])
	case numbers[1].N >= r.n:
		return reject(api.ErrVertex, numbers[1])
	}
	// The list grows by what is there: the header may say far more lines than follow.
	r.pairs = append(r.pairs, [2]int{numbers[0].N, numbers[1].N})
	return api.Reject{}
}

// end: what is lacking, once all lines are through.
func (r *reader) end(token api.Token) api.Reject {
	switch {
	case !r.begun:
		return reject(api.ErrHeader, token)
	case len(r.pairs) < r.m:
		return reject(api.ErrFew, token)
	}
	return api.Reject{}
}

func reject(code api.Errno, where api.Token) api.Reject {
	return api.Reject{Code: code, At: where.At}
}
