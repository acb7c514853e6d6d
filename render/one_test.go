package render_test

import (
	"math"
	"strings"
	"testing"

	"abacus/api"
	"abacus/point"
	"abacus/whole"
)

// P16.1: each verb by its text; the field that doesn't count isn't looked at.
func TestOneExamples(t *testing.T) {
	inf := math.Inf(1)
	for _, c := range []struct {
		directive string
		arg       api.Arg
		text      string
	}{
		{"%d", num(42.9), "42"}, {"%i", num(-42.9), "-42"}, {"%06d", num(-42), "-00042"}, {"%d", num(1e23), "99999999999999991611392"},
		{"%d", num(-0.5), "0"}, {"%+i", num(-0.5), "+0"}, {"% d", num(math.Copysign(0, -1)), " 0"}, {"%.0d", num(0.9), ""}, {"%+.3d", num(7), "+007"},
		{"%d", num(inf), "inf"}, {"%06d", num(-inf), "  -inf"}, {"%-6i", num(-inf), "-inf  "}, {"%+d", num(inf), "+inf"}, {"%d", pattern(api.NaN | minus), "-nan"},
		{"%x", num(-1), "ffffffffffffffff"}, {"%u", num(-1.5), "18446744073709551615"}, {"%u", num(-0.5), "0"}, {"%#o", num(8), "010"}, {"%#X", num(255), "0XFF"},
		{"%u", num(18446744073709555712), "4096"}, {"%o", num(18446744073709555712), "10000"}, {"%u", num(-18446744073709555712), "18446744073709547520"}, {"%x", num(1 << 63), "8000000000000000"},
		{"%u", num(1e300), "0"}, {"%x", num(-9223372036854775808), "8000000000000000"},
		{"%x", pattern(api.NaN), "nan"}, {"%X", pattern(api.NaN), "NAN"}, {"%-5u", num(inf), "inf  "}, {"%08o", num(-inf), "    -inf"}, {"% X", num(inf), " INF"}, {"%+u", num(inf), "+inf"}, {"%.1x", num(inf), "inf"},
		{"%c", num(65), "A"}, {"%c", num(321.9), "A"}, {"%c", num(-1), "\xff"}, {"%c", num(-191), "A"}, {"%c", num(0), "\x00"}, {"%c", num(-0.9), "\x00"}, {"%c", num(128), "\x80"}, {"%c", num(1e300), "\x00"}, {"%3c", num(233), "  \xe9"},
		{"%c", str("Bcd"), "B"}, {"%-3c", str("Bcd"), "B  "}, {"%03c", str("\xc3\xa9"), "  \xc3"}, {"%c", str(""), ""}, {"%2c", str(""), "  "}, {"%.0c", str("x"), "x"},
		{"%s", str("abc"), "abc"}, {"%5.2s", str("abc"), "   ab"}, {"%-5s", str("abc"), "abc  "}, {"%05s", str("a\x00%"), "  a\x00%"}, {"%s", str(""), ""},
		{"%f", num(0.5), "0.500000"}, {"%.0F", num(2.5), "2"}, {"%08.2f", num(-1.5), "-0001.50"}, {"%F", num(-inf), "-INF"}, {"%e", num(12345.678), "1.234568e+04"}, {"%E", num(0), "0.000000E+00"},
		{"%g", num(100000), "100000"}, {"%G", num(1e-10), "1E-10"}, {"%.17g", num(0.1), "0.10000000000000001"}, {"%f", num(math.Copysign(0, -1)), "-0.000000"}, {"%06g", pattern(api.NaN), "   nan"},
	} {
		holdOne(t, spec(c.directive), c.arg, c.text, api.OK)
	}
}

// wanted: what One must answer of a right Spec and an argument of its kind: what the layers below answer of the whole part that math/big tells.
func wanted(s api.Spec, a api.Arg) (string, api.Errno) {
	switch {
	case s.Verb == 's':
		return whole.Text(s, a.Str)
	case s.Verb == 'c' && a.Text:
		return whole.Char(s, a.Str)
	case s.Verb == 'c' && !finite(a.Num):
		return "", api.ErrFinite
	case s.Verb == 'c':
		return whole.Char(s, string([]byte{byte(modulo(cut(a.Num), 8))}))
	case strings.Contains(points, string(s.Verb)):
		return point.Render(s, a.Num)
	case !finite(a.Num):
		text, _, e := point.Special(s, a.Num)
		return text, e
	case s.Verb == 'd' || s.Verb == 'i':
		n := cut(a.Num)
		return whole.Signed(s, n.Sign() < 0, limbs(n))
	}
	return whole.Unsigned(s, modulo(cut(a.Num), 64))
}

// P16.1: every verb with every flag, at the ends of the doubles, of both signs.
func TestOneEnds(t *testing.T) {
	for _, verb := range []byte(wholes + "c" + points) {
		for flags := range 32 {
			s := api.Spec{Verb: verb, Flags: flags, Width: flags * 2, Prec: flags%5 - 1}
			for _, d := range ends() {
				for _, a := range []api.Arg{{Num: d}, {Num: d | minus, Str: "unseen"}} {
					text, e := wanted(s, a)
					holdOne(t, s, a, text, e)
				}
			}
		}
	}
}

// P16.1: drawn Specs and doubles.
func TestOneNumbers(t *testing.T) {
	seed := uint64(161)
	for range 100000 {
		s := drawSpec(&seed, pick(&seed, []byte(wholes+"c"+points)...))
		a := pattern(drawDouble(&seed))
		text, e := wanted(s, a)
		holdOne(t, s, a, text, e)
	}
}

// P16.1: drawn Specs and texts, of the verbs that take one.
func TestOneTexts(t *testing.T) {
	seed := uint64(1611)
	for range 20000 {
		s := drawSpec(&seed, pick[byte](&seed, 'c', 's'))
		text := make([]byte, between(&seed, 0, 40))
		for i := range text {
			text[i] = byte(random(&seed))
		}
		a := str(string(text))
		want, e := wanted(s, a)
		holdOne(t, s, a, want, e)
	}
}

// P16.1: every exponent field, the whole part told by math/big: just below and above each power of two.
func TestOneFields(t *testing.T) {
	for field := range uint64(2048) {
		for _, fraction := range []uint64{0, 1, 1 << 51, 0xfffffffffffff} {
			for _, verb := range []byte("duc") {
				s := api.Spec{Verb: verb, Prec: -1}
				for _, sign := range []uint64{0, minus} {
					a := pattern(sign | field<<52 | fraction)
					text, e := wanted(s, a)
					holdOne(t, s, a, text, e)
				}
			}
		}
	}
}

// P16.1: every byte as the verb: fourteen are rendered, each of the right kind alone, and c of both.
func TestOneKinds(t *testing.T) {
	for verb := range 256 {
		s := api.Spec{Verb: byte(verb), Prec: -1}
		number, text := api.OK, api.ErrKind
		switch {
		case !strings.Contains(verbs, string(rune(verb))):
			number, text = api.ErrSpec, api.ErrSpec
		case verb == 'c':
			text = api.OK
		case verb == 's':
			number, text = api.ErrKind, api.OK
		}
		for _, c := range []struct {
			a api.Arg
			e api.Errno
		}{{num(65), number}, {str("text"), text}} {
			want := ""
			if c.e == api.OK {
				want, _ = wanted(s, c.a)
			}
			holdOne(t, s, c.a, want, c.e)
		}
	}
}

// P16.1: the errors' order: the Verb, the Spec's numbers, the kind, a NaN or an infinity by c.
func TestOneRawSpecs(t *testing.T) {
	args := []api.Arg{num(1), num(math.Inf(-1)), pattern(api.NaN), str("text"), str("")}
	for s, e := range rawSpecs() {
		for _, s.Verb = range []byte("dXcsgE\x00%a") {
			for _, a := range args {
				text, fault := "", e
				switch {
				case !strings.Contains(verbs, string(s.Verb)):
					fault = api.ErrSpec
				case e != api.OK:
				case s.Verb != 'c' && a.Text != (s.Verb == 's'):
					fault = api.ErrKind
				default:
					text, fault = wanted(s, a)
				}
				holdOne(t, s, a, text, fault)
			}
		}
	}
}

// P16.1: a text up to MaxText bytes, and one byte more; only what would be made counts.
func TestOneLong(t *testing.T) {
	long := strings.Repeat("a", api.MaxText+1)
	holdOne(t, spec("%s"), str(long[1:]), long[1:], api.OK)
	holdOne(t, spec("%4096s"), str(long), "", api.ErrLong)
	holdOne(t, spec("%s"), str(long), "", api.ErrLong)
	holdOne(t, spec("%.4096s"), str(long), long[:4096], api.OK)
	holdOne(t, spec("%c"), str(long), "a", api.OK)
	holdOne(t, spec("%d"), str(long), "", api.ErrKind)
	holdOne(t, spec("%4097s"), str(long), "", api.ErrWide)
}
