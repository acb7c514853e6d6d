package point_test

import (
	"math"
	"math/big"
	"strconv"
	"strings"
	"testing"

	"abacus/api"
	"abacus/point"
)

const (
	minus  = api.Sign
	maxInt = 1<<63 - 1
	minInt = -1 << 63
	marks  = "-+ #0" // mark i is the flag 1<<i
	verbs  = "eEfFgG"
	tenth  = 0x3fb999999999999a
)

// random: a number from a fixed row (splitmix64), so that every run tests the same.
func random(seed *uint64) uint64 {
	*seed += 0x9e3779b97f4a7c15
	z := *seed
	z = (z ^ z>>30) * 0xbf58476d1ce4e5b9
	z = (z ^ z>>27) * 0x94d049bb133111eb
	return z ^ z>>31
}

// between: a number from low to high.
func between(seed *uint64, low int, high int) int {
	return low + int(random(seed)%uint64(high-low+1))
}

// drawDouble: a double of either sign: any pattern, short decimals, powers of ten and their neighbours, short fractions, the ends.
func drawDouble(seed *uint64) uint64 {
	d := random(seed)
	switch between(seed, 0, 5) {
	case 0:
		d = bits(float64(between(seed, 0, 99999))) // whole
	case 1:
		d = read(strconv.Itoa(between(seed, 0, 99999)) + "e" + strconv.Itoa(between(seed, -30, 30)))
	case 2:
		d = read("1e"+strconv.Itoa(between(seed, -12, 24))) + uint64(between(seed, 0, 2)) - 1
	case 3:
		d = bits(math.Ldexp(float64(between(seed, 1, 9999)), between(seed, -40, 40)))
	case 4:
		d = ends()[between(seed, 0, len(ends())-1)]
	}
	return d ^ random(seed)&minus
}

// ends: doubles at the ends of their classes, NaNs and infinities among them, without a sign.
func ends() []uint64 {
	return []uint64{0, 1, 2, 1<<52 - 1, 1 << 52, 1<<52 + 1, api.One - 1, api.One, api.One + 1, tenth, api.Most - 1, api.Most, api.Inf, api.Inf + 1, api.NaN - 1, api.NaN, api.NaN + 1, minus - 1}
}

// bits: a float's pattern.
func bits(x float64) uint64 { return math.Float64bits(x) }

// read: the double of a decimal text.
func read(text string) uint64 {
	x, _ := strconv.ParseFloat(text, 64)
	return bits(x)
}

// spec: the Spec of a directive that is written out.
func spec(text string) api.Spec {
	s := api.Spec{Verb: text[len(text)-1], Prec: -1}
	rest := text[1 : len(text)-1]
	for rest != "" && strings.IndexByte(marks, rest[0]) >= 0 {
		s.Flags |= 1 << strings.IndexByte(marks, rest[0])
		rest = rest[1:]
	}
	width, prec, point := strings.Cut(rest, ".")
	s.Width = number(width)
	if point {
		s.Prec = number(prec)
	}
	return s
}

// number: what a row of digits writes.
func number(digits string) int {
	n, _ := strconv.Atoi(digits)
	return n
}

// flagged: whether the Spec has the flag of this mark.
func flagged(s api.Spec, mark string) bool { return s.Flags>>strings.Index(marks, mark)&1 == 1 }

// specs: Specs of the verb with all flags, small widths and small precisions.
func specs(verb byte, width int, prec int) []api.Spec {
	var list []api.Spec
	for flags := range 32 {
		for w := range width + 1 {
			for p := -1; p <= prec; p++ {
				list = append(list, api.Spec{Verb: verb, Flags: flags, Width: w, Prec: p})
			}
		}
	}
	return list
}

// laid: head and body in the width.
func laid(s api.Spec, head string, body string, zeros bool) string {
	missing := strings.Repeat(" ", max(0, s.Width-len(head+body)))
	switch {
	case flagged(s, "-"):
		return head + body + missing
	case flagged(s, "0") && zeros:
		return head + strings.ReplaceAll(missing, " ", "0") + body
	}
	return missing + head + body
}

// head: the sign that must stand.
func head(s api.Spec, d uint64) string {
	switch {
	case d>>63 == 1:
		return "-"
	case flagged(s, "+"):
		return "+"
	case flagged(s, " "):
		return " "
	}
	return ""
}

// want: what Render must answer: the digits of Go's own library, laid out by C's rules.
func want(s api.Spec, d uint64) string {
	x := math.Float64frombits(d &^ minus)
	text := ""
	switch {
	case math.IsNaN(x):
		text = "nan"
	case math.IsInf(x, 0):
		text = "inf"
	default:
		text = digits(s, x)
	}
	if s.Verb < 'a' {
		text = strings.ToUpper(text)
	}
	return laid(s, head(s, d), text, x <= math.MaxFloat64)
}

// digits: the body of a finite number, in small letters.
func digits(s api.Spec, x float64) string {
	prec := s.Prec
	if prec < 0 {
		prec = 6
	}
	verb := s.Verb | 0x20
	if verb != 'g' {
		return pointed(s, strconv.FormatFloat(x, verb, prec, 64))
	}
	prec = max(prec, 1)
	text := strconv.FormatFloat(x, 'e', prec-1, 64)
	if _, power, _ := strings.Cut(text, "e"); number(power) >= -4 && number(power) < prec {
		text = strconv.FormatFloat(x, 'f', prec-1-number(power), 64)
	}
	row, power, has := strings.Cut(text, "e")
	if strings.Contains(row, ".") && !flagged(s, "#") {
		row = strings.TrimSuffix(strings.TrimRight(row, "0"), ".")
	}
	if has {
		row += "e" + power
	}
	return pointed(s, row)
}

// pointed: the text with the point that Hash asks for.
func pointed(s api.Spec, text string) string {
	if !flagged(s, "#") || strings.Contains(text, ".") {
		return text
	}
	row, power, has := strings.Cut(text, "e")
	if has {
		return row + ".e" + power
	}
	return row + "."
}

// power: 10^n.
func power(n int) *big.Rat {
	p := new(big.Int).Exp(big.NewInt(10), big.NewInt(int64(max(n, -n))), nil)
	if n < 0 {
		return new(big.Rat).SetFrac(big.NewInt(1), p)
	}
	return new(big.Rat).SetInt(p)
}

// brief: enough of a text to know it by.
func brief(s string) string {
	if len(s) > 80 {
		return s[:40] + ".." + s[len(s)-40:]
	}
	return s
}

// hold: Render's answer must be text beside OK.
func hold(t *testing.T, s api.Spec, d uint64, text string) {
	t.Helper()
	got, e := point.Render(s, d)
	if got != text || e != api.OK {
		t.Fatalf("%c %+v of %016x: %q (%d bytes), error %d; want %q (%d bytes)", s.Verb, s, d, brief(got), len(got), e, brief(text), len(text))
	}
}

// holdSpecial: Special's answer must be text, whether d is special, and the error.
func holdSpecial(t *testing.T, s api.Spec, d uint64, text string, is bool, e api.Errno) {
	t.Helper()
	got, told, fault := point.Special(s, d)
	if got != text || told != is || fault != e {
		t.Fatalf("%c %+v of %016x: %q, %v, error %d; want %q, %v, error %d", s.Verb, s, d, brief(got), told, fault, brief(text), is, e)
	}
}
