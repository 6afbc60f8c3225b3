// Package nums is layer 1: decimal numbers in lines of bytes: see shared/doc/01-nums.md.
package nums

import (
	"strconv"

	"tangram/api"
)

// Scan: the tokens of bytes, or the first fault and where it is.
func Scan(b []byte) (tokens []api.Token, at int, code api.Errno) {
	if len(b) > api.MaxText {
		return nil, api.MaxText, api.ErrLong
	}
	defer func() {
		switch f := recover().(type) {
		case nil:
		case fault:
			tokens, at, code = nil, f.at, f.code
		default:
			panic(f)
		}
	}()
	// Counting first meets every fault before memory is asked for, and the list never has to grow: it may have MaxText + 1 tokens.
	return gather(b, count(b)), 0, api.OK
}

// Text: a number's decimal digits.
func Text(n int) string { return strconv.Itoa(n) }

// Line: numbers as a line.
func Line(ns ...int) string {
	var line []byte
	for i, n := range ns {
		if i > 0 {
			line = append(line, ' ')
		}
		line = strconv.AppendInt(line, int64(n), 10)
	}
	return string(append(line, '\n'))
}
