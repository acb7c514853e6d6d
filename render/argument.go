package render

import (
	"strings"

	"abacus/api"
	"abacus/ieee"
	"abacus/point"
	"abacus/whole"
)

const (
	signedVerbs   = "di"
	unsignedVerbs = "ouxX"
	wholeVerbs    = signedVerbs + unsignedVerbs
	verbs         = wholeVerbs + "cseEfFgG"
)

// check: the errors of a raw Spec.
func check(s api.Spec) api.Errno {
	if strings.IndexByte(verbs, s.Verb) < 0 {
		return api.ErrSpec
	}
	// Whatever it pads, Pad finds what is wrong with the numbers.
	_, e := whole.Pad(s, "", "", false)
	return e
}

// takes: whether the verb renders an argument of this kind.
func takes(verb byte, a api.Arg) bool {
	return verb == 'c' || a.Text == (verb == 's')
}

// wholePart: d, cut to a whole number, by a directive of whole numbers; a NaN or an infinity by its name.
func wholePart(s api.Spec, d uint64) (string, api.Errno) {
	neg, n, e := ieee.Whole(d)
	if e != api.OK { // it can only be ErrFinite
		text, _, e := point.Special(s, d)
		return text, e
	}
	if strings.IndexByte(signedVerbs, s.Verb) >= 0 {
		return whole.Signed(s, neg, n)
	}
	return whole.Unsigned(s, low(neg, n))
}

// charNumbered: the byte of d's number, by a directive c.
func charNumbered(s api.Spec, d uint64) (string, api.Errno) {
	neg, n, e := ieee.Whole(d)
	if e != api.OK {
		return "", e
	}
	// A conversion of the number itself would make UTF-8 of it.
	return whole.Char(s, string([]byte{byte(low(neg, n))}))
}

// low: a whole number modulo 2^64.
func low(neg bool, n []uint64) uint64 {
	if len(n) == 0 {
		return 0
	}
	if neg {
		return -n[0]
	}
	return n[0]
}
