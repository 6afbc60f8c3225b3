package cert

import (
	"strings"

	"tangram/api"
	"tangram/nums"
)

// writer puts lines one behind the other, as long as they aren't too long.
type writer struct {
	text strings.Builder
	long bool
}

// write: the text of a proof that fits.
func write(p proof) (string, api.Errno) {
	var w writer
	switch p := p.(type) {
	case rounds:
		w.head("p ", len(p))
		for _, list := range p {
			w.line(list...)
		}
	case part:
		w.head("n ", len(p))
		for _, e := range p {
			w.line(e.U, e.V)
		}
	}
	if w.long || w.text.Len() > api.MaxText {
		return "", api.ErrLong
	}
	return w.text.String(), api.OK
}

func (w *writer) head(letter string, count int) {
	w.text.WriteString(letter)
	w.line(count)
}

// line needn't be written, if there is too little room for it: each number takes two bytes at least, with the one behind it.
func (w *writer) line(numbers ...int) {
	if w.long || w.text.Len()+2*len(numbers) > api.MaxText {
		w.long = true
		return
	}
	w.text.WriteString(nums.Line(numbers...))
}
