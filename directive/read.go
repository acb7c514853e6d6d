package directive

import (
	"strings"

	"abacus/api"
)

// reader goes through a format. Where it finds a fault, at is the fault's place.
type reader struct {
	format string
	at     int
}

// next is the byte at hand; behind the end it is 0, which is no mark of a directive.
func (r *reader) next() byte {
	if r.at == len(r.format) {
		return 0
	}
	return r.format[r.at]
}

// piece reads a piece; there is a byte at least.
func (r *reader) piece() (api.Piece, api.Errno) {
	if r.next() != percent {
		return api.Piece{Text: r.text()}, api.OK
	}
	r.at++
	if r.next() == percent {
		r.at++
		return api.Piece{Verb: percent}, api.OK
	}
	return r.directive()
}

// text reads the bytes up to the next %. They are copied, since a piece of the format would hold all of it.
func (r *reader) text() string {
	rest := r.format[r.at:]
	if n := strings.IndexByte(rest, percent); n >= 0 {
		rest = rest[:n]
	}
	r.at += len(rest)
	return strings.Clone(rest)
}

// directive reads what stands behind a %. The parts of a directive have one order and each may be missing: so the first mark says where to begin, and from there on all parts are asked for.
func (r *reader) directive() (api.Piece, api.Errno) {
	var p api.Piece
	var e api.Errno
	switch r.next() {
	case '-', '+', ' ', '#', '0':
		p.Flags = r.flags()
		fallthrough
	case '*', '1', '2', '3', '4', '5', '6', '7', '8', '9':
		if p.WidthKind, p.Width, e = r.number(); e != api.OK {
			return api.Piece{}, e
		}
		fallthrough
	case '.':
		if p.PrecKind, p.Prec, e = r.precision(); e != api.OK {
			return api.Piece{}, e
		}
		fallthrough
	default:
		if p.Verb, e = r.verb(); e != api.OK {
			return api.Piece{}, e
		}
	}
	return p, api.OK
}

// flags reads flags, as many as there are, into their sum.
func (r *reader) flags() int {
	sum := 0
	for {
		i := strings.IndexByte(flagMarks, r.next())
		if i < 0 {
			return sum
		}
		sum |= 1 << i
		r.at++
	}
}

// number reads a star, digits, or nothing: its kind and what the digits write.
func (r *reader) number() (int, int, api.Errno) {
	if r.next() == '*' {
		r.at++
		return api.HasStar, 0, api.OK
	}
	first, n := r.at, 0
	for '0' <= r.next() && r.next() <= '9' {
		// Beyond the limit no digit counts any more; so the longest row of digits does no harm.
		n = min(10*n+int(r.next()-'0'), api.MaxWidth+1)
		r.at++
	}
	switch {
	case r.at == first:
		return api.NoNumber, 0, api.OK
	case n > api.MaxWidth:
		r.at = first
		return api.NoNumber, 0, api.ErrWide
	}
	return api.HasNumber, n, api.OK
}

// precision reads a point and the number behind it, or nothing; a point alone is a precision of 0.
func (r *reader) precision() (int, int, api.Errno) {
	if r.next() != '.' {
		return api.NoNumber, 0, api.OK
	}
	r.at++
	kind, n, e := r.number()
	if e == api.OK && kind == api.NoNumber {
		kind = api.HasNumber
	}
	return kind, n, e
}

// verb reads the byte that ends a directive.
func (r *reader) verb() (byte, api.Errno) {
	switch c := r.next(); {
	case r.at == len(r.format):
		return 0, api.ErrEnds
	case strings.IndexByte(verbs, c) < 0:
		return 0, api.ErrVerb
	default:
		r.at++
		return c, api.OK
	}
}
