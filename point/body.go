package point

import (
	"strings"

	"abacus/api"
	"abacus/fixed"
	"abacus/ieee"
	"abacus/whole"
)

const (
	noPrec     = -1
	usualPrec  = 6  // what no precision means
	leastPower = -4 // g writes a number below 10^leastPower with an exponent
)

// number is what a body writes, its parts kept apart so that zeros can be taken from the end of behind.
type number struct {
	ahead  string // the digits ahead of the point
	behind string // those behind it
	power  string // the exponent, with its letter and sign, or nothing
}

// has: whether the flag is among the Spec's.
func has(s api.Spec, flag int) bool { return s.Flags&flag != 0 }

// capital: whether the verb writes its letters as capitals.
func capital(verb byte) bool { return strings.IndexByte("EFGX", verb) >= 0 }

// finite: whether d is no infinity and no NaN.
func finite(d uint64) bool { return ieee.Class(d) < api.Infinite }

// sign: what stands ahead of d's body.
func sign(s api.Spec, d uint64) string {
	switch {
	case ieee.Decode(d).Neg:
		return "-"
	case has(s, api.Plus):
		return "+"
	case has(s, api.Space):
		return " "
	}
	return ""
}

// name: the body of an infinity or a NaN; nothing for a finite d.
func name(verb byte, d uint64) string {
	text := ""
	switch ieee.Class(d) {
	case api.Infinite:
		text = "inf"
	case api.NotANumber:
		text = "nan"
	}
	if capital(verb) {
		return strings.ToUpper(text)
	}
	return text
}

// body: the body of a finite d.
func body(s api.Spec, d uint64) string {
	prec := s.Prec
	if prec == noPrec {
		prec = usualPrec
	}
	var n number
	switch s.Verb {
	case 'f', 'F':
		n = placed(d, prec)
	case 'e', 'E':
		n = powered(s.Verb, d, prec)
	default:
		n = general(s.Verb, d, max(prec, 1))
		if !has(s, api.Hash) {
			n.behind = strings.TrimRight(n.behind, "0")
		}
	}
	return written(n, has(s, api.Hash))
}

// written: the number's text; it has a point where digits stand behind it, or where it always must.
func written(n number, always bool) string {
	if n.behind == "" && !always {
		return n.ahead + n.power
	}
	return n.ahead + "." + n.behind + n.power
}

// placed: |d| with so many digits behind the point.
func placed(d uint64, places int) number {
	ahead, behind, _ := fixed.Places(d, places)
	return number{ahead: ahead, behind: behind}
}

// powered: |d| with one digit ahead of the point, so many behind it, and an exponent.
func powered(verb byte, d uint64, places int) number {
	digits, power, _ := fixed.Figures(d, places+1)
	return number{ahead: digits[:1], behind: digits[1:], power: exponent(verb, power)}
}

// general: |d| with so many figures, in the form that its exponent asks for.
func general(verb byte, d uint64, figures int) number {
	// The exponent is that of the rounded number: 9.5 to one figure is 10.
	_, power, _ := fixed.Figures(d, figures)
	if leastPower <= power && power < figures {
		return placed(d, figures-1-power)
	}
	return powered(verb, d, figures-1)
}

// exponent: a power of ten as it is written: its letter, its sign and two digits at least, which is what %+.2d makes of it.
func exponent(verb byte, power int) string {
	letter := "e"
	if capital(verb) {
		letter = "E"
	}
	signed := api.Spec{Verb: 'd', Flags: api.Plus, Prec: 2}
	digits, _ := whole.Signed(signed, power < 0, []uint64{uint64(max(power, -power))})
	return letter + digits
}
