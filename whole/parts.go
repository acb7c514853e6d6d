package whole

import (
	"strings"

	"abacus/api"
	"abacus/nat"
	"abacus/numeral"
)

const (
	noPrec   = -1
	allFlags = api.Minus | api.Plus | api.Space | api.Hash | api.ZeroPad
)

// has: whether the flag is among the Spec's.
func has(s api.Spec, flag int) bool { return s.Flags&flag != 0 }

// check: ErrArg or ErrWide if a Spec's numbers aren't in bounds.
func check(s api.Spec) api.Errno {
	switch {
	case s.Flags < 0 || s.Flags > allFlags || s.Width < 0 || s.Prec < noPrec:
		return api.ErrArg
	case s.Width > api.MaxWidth || s.Prec > api.MaxWidth:
		return api.ErrWide
	}
	return api.OK
}

// checkVerb: ErrSpec if the Verb is none of verbs, else what check finds. Pad would find it too, but only behind the work on a number, whose own errors come last.
func checkVerb(s api.Spec, verbs string) api.Errno {
	if strings.IndexByte(verbs, s.Verb) < 0 {
		return api.ErrSpec
	}
	return check(s)
}

// digitsOf: n's digits, none at all of nothing.
func digitsOf(n []uint64, base int, upper bool) (string, api.Errno) {
	if nat.BitLen(n) == 0 {
		return "", api.OK
	}
	return numeral.InBase(n, base, upper)
}

// unsignedDigits: u's digits as the verb writes them. X is x with capitals, and x is o with more digits to choose from.
func unsignedDigits(verb byte, u uint64) (string, api.Errno) {
	base, upper := 8, false
	switch verb {
	case 'X':
		upper = true
		fallthrough
	case 'x':
		base = 16
		fallthrough
	case 'o':
		return digitsOf(nat.FromUint(u), base, upper)
	}
	return digitsOf(nat.FromUint(u), 10, false)
}

// filled: digits brought to as many as the precision asks for, or to one where there is none.
func filled(s api.Spec, digits string) string {
	least := s.Prec
	if least == noPrec {
		least = 1
	}
	return strings.Repeat("0", max(0, least-len(digits))) + digits
}

// sign: the head of a signed number.
func sign(s api.Spec, below bool) string {
	switch {
	case below:
		return "-"
	case has(s, api.Plus):
		return "+"
	case has(s, api.Space):
		return " "
	}
	return ""
}

// marked: the head and the body of u with the mark of its base.
func marked(verb byte, body string, u uint64) (string, string) {
	switch {
	case verb == 'o' && !strings.HasPrefix(body, "0"):
		return "", "0" + body
	case verb == 'x' && u != 0:
		return "0x", body
	case verb == 'X' && u != 0:
		return "0X", body
	}
	return "", body
}

// first: the first n bytes of text, or all if it has no more.
func first(text string, n int) string { return text[:min(n, len(text))] }
