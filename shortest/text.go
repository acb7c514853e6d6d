package shortest

import (
	"strconv"
	"strings"

	"abacus/api"
	"abacus/ieee"
)

// Text: d's shortest digits as a text.
func Text(d uint64) string {
	sign := ""
	if negative(d) {
		sign = "-"
	}
	switch ieee.Class(d) {
	case api.NotANumber:
		return sign + "nan"
	case api.Infinite:
		return sign + "inf"
	case api.Zero:
		return sign + "0"
	}
	x, _ := Digits(d)
	return sign + laid(x.Digits, len(x.Digits)+x.Exp)
}

// laid is the text of 0.digits * 10^p: written out where p is small, else with an exponent.
func laid(digits string, p int) string {
	n := len(digits)
	switch {
	case 0 < p && p <= 21 && n <= p:
		return digits + zeros(p-n)
	case 0 < p && p <= 21:
		return digits[:p] + "." + digits[p:]
	case -6 < p && p <= 0:
		return "0." + zeros(-p) + digits
	}
	text := digits[:1]
	if n > 1 {
		text += "." + digits[1:]
	}
	return text + power(p-1)
}

// power is the exponent's part of a text, with two digits at least.
func power(p int) string {
	sign := "e+"
	if p < 0 {
		sign, p = "e-", -p
	}
	if p < 10 {
		sign += "0"
	}
	return sign + strconv.Itoa(p)
}

func zeros(n int) string { return strings.Repeat("0", n) }
