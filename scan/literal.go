package scan

import "abacus/api"

// literal is a literal as it stands in a text.
type literal struct {
	neg    bool
	ahead  string // the digits ahead of the point
	behind string // the digits behind it
	scale  int    // the written exponent
	end    int    // the place behind the literal
}

// read takes the longest literal that begins at a place of s; false if none begins there.
func read(s string, at int) (literal, bool) {
	l := literal{neg: peek(s, at) == '-'}
	below := false
	at = pastSign(s, at)
	from := at

ahead:
	if digit(peek(s, at)) {
		at++
		goto ahead
	}
	l.ahead = s[from:at]
	if peek(s, at) != '.' {
		goto number
	}
	at++
	from = at

behind:
	if digit(peek(s, at)) {
		at++
		goto behind
	}
	l.behind = s[from:at]

number:
	if len(l.ahead)+len(l.behind) == 0 {
		return literal{}, false
	}
	l.end = at
	if c := peek(s, at); c != 'e' && c != 'E' {
		return l, true
	}
	at++
	below = peek(s, at) == '-'
	at = pastSign(s, at)
	if !digit(peek(s, at)) {
		// The letter has no exponent behind it, so the literal has ended ahead of it.
		return l, true
	}

exponent:
	if digit(peek(s, at)) {
		l.scale = min(10*l.scale+int(s[at]-'0'), api.MaxScale)
		at++
		goto exponent
	}
	if below {
		l.scale = -l.scale
	}
	l.end = at
	return l, true
}

// dec is the literal's value, as the normal Dec.
func (l literal) dec() api.Dec {
	return own(trim(api.Dec{Neg: l.neg, Digits: l.ahead + l.behind, Exp: l.scale - len(l.behind)}))
}

// blanks is the place behind the blanks that stand at a place of s.
func blanks(s string, at int) int {
	for at < len(s) && Blank(s[at]) {
		at++
	}
	return at
}

// pastSign is the place behind the sign that stands at a place of s; that place itself if none does.
func pastSign(s string, at int) int {
	if c := peek(s, at); c == '+' || c == '-' {
		return at + 1
	}
	return at
}

// peek is the byte at a place of s. Behind the end it is 0, which no literal has, so that no state need ask for the end.
func peek(s string, at int) byte {
	if at < len(s) {
		return s[at]
	}
	return 0
}

// digit tells whether c is a digit.
func digit(c byte) bool { return '0' <= c && c <= '9' }
