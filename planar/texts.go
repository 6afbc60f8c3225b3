package planar

import (
	"strconv"
	"strings"

	"tangram/api"
	"tangram/cert"
	"tangram/nums"
)

const (
	rejected  = "rejected "
	cancelled = "cancelled\n"

	most = 999999999 // the greatest number that a text may have
)

// Print: a result's text.
func Print(r api.Result) (string, api.Errno) {
	switch r.Verdict {
	case api.Rejected:
		code, at := int(r.Reject.Code), r.Reject.At
		if code < 1 || code > most || at < 0 || at > most {
			return "", api.ErrRange
		}
		return rejected + nums.Line(code, at), api.OK
	case api.Cancelled:
		return cancelled, api.OK
	case api.Planar, api.NonPlanar:
		if r.Cert.Planar == (r.Verdict == api.Planar) {
			return cert.Print(r.Cert)
		}
	}
	return "", api.ErrRange
}

// ParseResult: the result that a text writes.
func ParseResult(b []byte) (api.Result, int, api.Errno) {
	if len(b) > 0 && (b[0] == rejected[0] || b[0] == cancelled[0]) {
		r, is := withoutCert(string(b))
		if !is {
			return api.Result{}, 0, api.ErrCertText
		}
		return r, 0, api.OK
	}
	c, at, code := cert.Parse(b)
	if code != api.OK {
		return api.Result{}, at, code
	}
	r := api.Result{Verdict: api.NonPlanar, Cert: c}
	if c.Planar {
		r.Verdict = api.Planar
	}
	return r, 0, api.OK
}

// withoutCert: the result that a text without a certificate writes. Its numbers are read in whatever spelling: that Print spells them just so tells that it is one.
func withoutCert(text string) (api.Result, bool) {
	r := api.Result{Verdict: api.Cancelled}
	if numbers, is := strings.CutPrefix(text, rejected); is {
		r = api.Result{Verdict: api.Rejected, Reject: rejectOf(numbers)}
	}
	again, code := Print(r)
	return r, code == api.OK && again == text
}

// rejectOf: what two numbers in a line say; where they are none, something else.
func rejectOf(line string) api.Reject {
	first, second, _ := strings.Cut(strings.TrimSuffix(line, "\n"), " ")
	code, _ := strconv.Atoi(first)
	at, _ := strconv.Atoi(second)
	return api.Reject{Code: api.Errno(code), At: at}
}
