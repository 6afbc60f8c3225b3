package cert

import (
	"tangram/api"
	"tangram/nums"
)

// fault is the place at which a reader gives up.
type fault int

// reader goes through a text once; at is the place of the first byte that it hasn't passed.
type reader struct {
	text []byte
	at   int
}

// read: the proof that the text writes; or the place of the first fault, and false.
func read(text []byte) (p proof, at int, is bool) {
	defer func() {
		switch found := recover().(type) {
		case nil:
		case fault:
			p, at, is = nil, int(found), false
		default:
			panic(found)
		}
	}()
	r := reader{text: text}
	p = r.proof()
	if r.at < len(text) {
		panic(fault(r.at))
	}
	return p, 0, true
}

func (r *reader) proof() proof {
	if r.passes('p') {
		return r.rounds()
	}
	r.want('n')
	return r.part()
}

// rounds: the lists grow by what is there, for the head may say far more lines than follow.
func (r *reader) rounds() rounds {
	var p rounds
	for range r.count(api.MaxN) {
		p = append(p, r.list())
	}
	return p
}

func (r *reader) list() []int {
	if r.passes('\n') {
		return nil
	}
	list := []int{r.number(0)}
	for r.passes(' ') {
		list = append(list, r.number(list[0]))
	}
	r.want('\n')
	return list
}

func (r *reader) part() part {
	var p part
	var last api.Edge
	for range r.count(api.MaxEdges) {
		last = r.edge(last)
		p = append(p, last)
	}
	return p
}

// edge: one that stands behind the last one.
func (r *reader) edge(last api.Edge) api.Edge {
	at := r.at
	var e api.Edge
	e.U = r.number(0)
	r.want(' ')
	e.V = r.number(e.U + 1)
	if !above(e, last) {
		panic(fault(at))
	}
	r.want('\n')
	return e
}

// count: how many lines follow; the head's rest is passed.
func (r *reader) count(most int) int {
	r.want(' ')
	at := r.at
	k := r.number(0)
	if k > most {
		panic(fault(at))
	}
	r.want('\n')
	return k
}

// number: the one that stands here, which may not be below least.
func (r *reader) number(least int) int {
	at := r.at
	for r.at < len(r.text) && '0' <= r.text[r.at] && r.text[r.at] <= '9' {
		r.at++
	}
	tokens, _, code := nums.Scan(r.text[at:r.at])
	// Where there are no digits, the first token is the end, and no number.
	if code != api.OK || tokens[0].Kind != api.TokenNum || tokens[0].N < least {
		panic(fault(at))
	}
	return tokens[0].N
}

func (r *reader) want(c byte) {
	if !r.passes(c) {
		panic(fault(r.at))
	}
}

// passes: does this byte stand here? Then it is passed.
func (r *reader) passes(c byte) bool {
	if r.at == len(r.text) || r.text[r.at] != c {
		return false
	}
	r.at++
	return true
}
