package point_test

import (
	"math"
	"strconv"
	"strings"
	"testing"

	"abacus/api"
)

// P15.1: the document's examples.
func TestExamples(t *testing.T) {
	for _, c := range []struct {
		directive string
		d         uint64
		text      string
	}{
		{"%f", bits(0.5), "0.500000"}, {"%.0f", bits(0.5), "0"}, {"%.0f", bits(1.5), "2"}, {"%.0f", bits(2.5), "2"}, {"%#.0f", bits(2.5), "2."},
		{"%.2f", bits(0.125), "0.12"}, {"%.1f", 0xbfa47ae147ae147b, "-0.0"}, {"%f", minus, "-0.000000"}, {"%.3F", tenth, "0.100"}, {"%.20f", tenth, "0.10000000000000000555"},
		{"%e", 0, "0.000000e+00"}, {"%.0e", bits(12345), "1e+04"}, {"%#.0e", bits(12345), "1.e+04"}, {"%.2E", 0x4023fd70a3d70a3d, "9.99E+00"},
		{"%e", api.Most, "1.797693e+308"}, {"%.0e", bits(9.5), "1e+01"}, {"%e", 1, "4.940656e-324"},
		{"%g", bits(100000), "100000"}, {"%g", bits(1000000), "1e+06"}, {"%g", 0x3f1a36e2eb1c432d, "0.0001"}, {"%g", 0x3ee4f8b588e368f1, "1e-05"},
		{"%.3g", 0x408f3c0000000000, "1e+03"}, {"%#g", api.One, "1.00000"}, {"%#.3g", bits(100), "100."}, {"%.0g", bits(2.5), "2"}, {"%g", minus, "-0"},
		{"%.17g", tenth, "0.10000000000000001"}, {"%G", 0x54b249ad2594c37d, "1E+100"}, {"%#.0g", 0, "0."},
		{"%8.2f", bits(-1.5), "   -1.50"}, {"%-8.2f", bits(-1.5), "-1.50   "}, {"%08.2f", bits(-1.5), "-0001.50"}, {"%-08.2f", bits(-1.5), "-1.50   "},
		{"%+f", api.One, "+1.000000"}, {"% f", api.One, " 1.000000"}, {"%+ f", api.One, "+1.000000"}, {"%+08.1f", 0, "+00000.0"},
		{"%f", api.NaN, "nan"}, {"%f", 0xfff0000000000001, "-nan"}, {"%+G", api.NaN, "+NAN"}, {"%06f", api.Inf, "   inf"},
		{"%-6E", api.Inf | minus, "-INF  "}, {"% .3f", api.Inf, " inf"},
	} {
		hold(t, spec(c.directive), c.d, c.text)
	}
}

// P15.1: what else C asks for: zeros in each form, digits taken away and kept, a carry into another form, both letters of an exponent.
func TestMoreByHand(t *testing.T) {
	for _, c := range []struct {
		directive string
		d         uint64
		text      string
	}{
		{"%.0e", 0, "0e+00"}, {"%#.0E", minus, "-0.E+00"}, {"%g", 0, "0"}, {"%#g", 0, "0.00000"}, {"%.0f", minus, "-0"}, {"%#.0F", 0, "0."}, {"%#.1g", 0, "0."}, {"%#.2g", 0, "0.0"},
		{"%#.2g", bits(99.99), "1.0e+02"}, {"%.2g", bits(99.99), "1e+02"}, {"%#.3g", bits(99.99), "100."}, {"%.3g", bits(99.99), "100"}, {"%#.4g", bits(99.996), "100.0"},
		{"%.1g", bits(0.00009999), "0.0001"}, {"%#.2g", bits(0.00009999), "0.00010"}, {"%.4g", bits(0.00009999), "9.999e-05"},
		{"%g", bits(1e10), "1e+10"}, {"%.20g", bits(1e10), "10000000000"}, {"%.10g", bits(1e10), "1e+10"}, {"%.11g", bits(1e10), "10000000000"}, {"%#.11g", bits(1e10), "10000000000."},
		{"%g", bits(120), "120"}, {"%g", bits(1200000), "1.2e+06"}, {"%#g", bits(1200000), "1.20000e+06"}, {"%g", bits(0.00012), "0.00012"}, {"%g", bits(1.5e-300), "1.5e-300"},
		{"%G", bits(1e-5), "1E-05"}, {"%G", bits(1e99), "1E+99"}, {"%g", bits(-1e100), "-1e+100"}, {"%.0g", bits(9.5), "1e+01"}, {"%.0g", bits(8.5), "8"},
		{"%.1f", bits(0.25), "0.2"}, {"%.1f", bits(0.75), "0.8"}, {"%.0f", bits(-0.5), "-0"}, {"%.0e", bits(2.5), "2e+00"}, {"%.0e", bits(3.5), "4e+00"}, {"%.1e", bits(1.25), "1.2e+00"},
		{"%012e", bits(-1), "-1.000000e+00"}, {"%015e", bits(-1), "-001.000000e+00"}, {"%+010g", bits(1), "+000000001"}, {"% 06g", bits(2), " 00002"}, {"%#06.0f", bits(3), "00003."},
		{"%010F", api.NaN, "       NAN"}, {"%-10g", api.Inf, "inf       "}, {"%+08e", api.Inf, "    +inf"},
	} {
		hold(t, spec(c.directive), c.d, c.text)
	}
}

// P15.1: all flags at small widths and precisions.
func TestAllFlags(t *testing.T) {
	list := []uint64{0, minus, bits(1), bits(-1.5), bits(99.96), bits(0.00095), bits(123456), bits(2e-5), api.Inf, api.Inf | minus, api.NaN, api.NaN | minus}
	for _, verb := range []byte(verbs) {
		for _, s := range specs(verb, 13, 4) {
			for _, d := range list {
				hold(t, s, d, want(s, d))
			}
		}
	}
}

// P15.1: drawn doubles by drawn Specs.
func TestDrawn(t *testing.T) {
	seed := uint64(15)
	for range 150000 {
		s := api.Spec{Verb: verbs[between(&seed, 0, 5)], Flags: between(&seed, 0, 31), Width: between(&seed, 0, 30), Prec: between(&seed, -1, 22)}
		d := drawDouble(&seed)
		hold(t, s, d, want(s, d))
	}
}

// P15.1: every exponent field, with the least, a middle and the greatest fraction, of both signs.
func TestEveryField(t *testing.T) {
	for field := range uint64(2048) {
		for i, fraction := range []uint64{0, 1, 0x8000000000000, 0xfffffffffffff} {
			d := field<<52 | fraction | uint64(i)<<63
			for k, verb := range []byte(verbs) {
				s := api.Spec{Verb: verb, Flags: int(field+uint64(k)) % 32, Width: 20, Prec: (k+i)*3 - 1}
				hold(t, s, d, want(s, d))
			}
		}
	}
}

// P15.1: where g goes from one form to the other: about every small power of ten, at every small precision.
func TestFormOfG(t *testing.T) {
	for k := -7; k <= 23; k++ {
		for _, row := range []string{"1", "9.5", "9.95", "9.995", "9.9995", "9.99999999", "1.0000001", "1.2", "5"} {
			middle := read(row + "e" + strconv.Itoa(k))
			for _, d := range []uint64{middle - 1, middle, middle + 1} {
				for prec := -1; prec <= 24; prec++ {
					for _, flags := range []int{0, api.Hash} {
						for _, verb := range []byte("gG") {
							s := api.Spec{Verb: verb, Flags: flags, Prec: prec}
							hold(t, s, d, want(s, d))
						}
					}
				}
			}
		}
	}
}

// P15.1: a value just between two goes to the even digit, in all forms; a little more or less goes to the nearer one.
func TestTies(t *testing.T) {
	for n := 1; n <= 12; n++ {
		for i := range 200 {
			d := bits(math.Ldexp(float64(2*i+1), -n)) // its last digit, 5, stands at place n
			for _, x := range []uint64{d - 1, d, d + 1} {
				for _, verb := range []byte(verbs) {
					for prec := max(0, n-4); prec <= n+1; prec++ {
						s := api.Spec{Verb: verb, Prec: prec}
						hold(t, s, x, want(s, x))
					}
				}
			}
		}
	}
	for _, c := range []struct {
		d    uint64
		text string
	}{{bits(0.5), "0"}, {bits(1.5), "2"}, {bits(2.5), "2"}, {bits(3.5), "4"}, {bits(0.5) + 1, "1"}, {bits(1.5) - 1, "1"}, {bits(2.5) + 1, "3"}} {
		hold(t, spec("%.0f"), c.d, c.text)
		hold(t, spec("%.0f"), c.d|minus, "-"+c.text)
	}
}

// P15.1: the greatest width and precision, and those near them, for all verbs.
func TestWidest(t *testing.T) {
	for _, verb := range []byte(verbs) {
		for _, d := range []uint64{0, 1, bits(1e-4), tenth, api.One, bits(-1e15), api.Most, api.Inf, api.NaN | minus} {
			for _, prec := range []int{-1, 766, 1074, 4095, 4096} {
				for _, flags := range []int{0, api.Minus, api.ZeroPad, api.Hash | api.Plus, api.Hash | api.ZeroPad | api.Space} {
					s := api.Spec{Verb: verb, Flags: flags, Width: 4096, Prec: prec}
					hold(t, s, d, want(s, d))
				}
			}
		}
	}
	zeros := strings.Repeat("0", 4096)
	hold(t, spec("%.4096e"), 0, "0."+zeros+"e+00")
	hold(t, spec("%04096.0f"), 0, zeros)
}

// P15.1: lengths at the limits: digits ahead of the point stand beside all places, and g with Hash writes 4099 of them.
func TestLongest(t *testing.T) {
	for _, c := range []struct {
		directive string
		d         uint64
		bytes     int
	}{
		{"%.4096f", api.Most, 309 + 1 + 4096}, {"%+.4096f", api.Most, 1 + 309 + 1 + 4096}, {"%.4096e", api.Most, 2 + 4096 + 5}, {"%.4096e", 1, 2 + 4096 + 5},
		{"%#.4096g", bits(0.0001), 2 + 4099}, {"%#.4096g", bits(0.001), 2 + 4098}, {"%#.4096g", api.One, 2 + 4095}, {"%#.4096g", api.Most, 4097}, {"%#.4096G", bits(0.00001), 2 + 4095 + 4},
		{"%.4096g", bits(0.0001), len(strconv.FormatFloat(0.0001, 'f', 66, 64))}, {"%.4096g", api.Most, 309}, {"%4096g", api.One, 4096}, {"%-4096f", api.Inf, 4096}, {"%04096e", minus, 4096},
	} {
		text := want(spec(c.directive), c.d)
		if len(text) != c.bytes {
			t.Fatalf("%s of %016x: %d bytes are wanted, %d told", c.directive, c.d, len(text), c.bytes)
		}
		hold(t, spec(c.directive), c.d, text)
	}
}
