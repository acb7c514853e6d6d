package value_test

import (
	"math"
	"math/big"
	"strconv"
	"strings"
	"testing"

	"abacus/api"
	"abacus/directive"
	"abacus/point"
	"abacus/value"
)

// digits: what Integer must answer, told by math/big.
func digits(d uint64) (string, bool) {
	x := float(d)
	if math.IsNaN(x) || math.IsInf(x, 0) {
		return "", false
	}
	exact := new(big.Float).SetFloat64(x)
	n, _ := exact.Int(nil)
	if !exact.IsInt() || n.BitLen() > 63 {
		return "", false
	}
	return n.String(), true
}

// holdInteger: Integer's answer of d must be that of math/big.
func holdInteger(t *testing.T, d uint64) {
	t.Helper()
	want, good := digits(d)
	if got, ok := value.Integer(d); got != want || ok != good {
		t.Fatalf("Integer of %016x: %q, %v; want %q, %v", d, got, ok, want, good)
	}
}

// P17.4: the document's examples of Integer.
func TestIntegerExamples(t *testing.T) {
	for d, want := range map[uint64]string{
		0x43abc16d674ec800: "1000000000000000000", 0x43dfffffffffffff: "9223372036854774784", 0xc3dfffffffffffff: "-9223372036854774784", 0: "0", minus: "0",
		api.One: "1", api.One | minus: "-1", bits(-10): "-10", bits(1 << 53): "9007199254740992", bits(1<<53 - 1): "9007199254740991", bits(1 << 62): "4611686018427387904",
	} {
		if got, ok := value.Integer(d); got != want || !ok {
			t.Errorf("Integer of %016x: %q, %v; want %q", d, got, ok, want)
		}
	}
	for _, d := range []uint64{bits(1 << 63), bits(-1 << 63), bits(0.5), bits(-0.5), bits(1.5), bits(1e19), bits(1e300), api.NaN, api.NaN | minus, api.Inf, api.Inf | minus, api.Most, 1, minus | 1, bits(1<<52 - 0.5), api.One - 1, api.One + 1} {
		if got, ok := value.Integer(d); got != "" || ok {
			t.Errorf("Integer of %016x: %q, %v", d, got, ok)
		}
	}
}

// P17.4: every exponent field, with fractions that end at each bit.
func TestIntegerFields(t *testing.T) {
	for field := range uint64(2048) {
		for bit := range 52 {
			for _, fraction := range []uint64{0, 1 << bit, 1<<52 - 1<<bit} {
				holdInteger(t, field<<52|fraction)
				holdInteger(t, minus|field<<52|fraction)
			}
		}
	}
}

// P17.4: whole numbers around the powers of ten and of two, small ones all.
func TestIntegerWhole(t *testing.T) {
	for i := range 100000 {
		holdInteger(t, bits(float64(i)))
		holdInteger(t, bits(-float64(i)))
		holdInteger(t, bits(float64(i)/2))
	}
	for i := 0; i < 20; i++ {
		d := read("1e" + strconv.Itoa(i))
		for _, d := range []uint64{d - 1, d, d + 1, bits(float(d) - 1), bits(float(d) + 1)} {
			holdInteger(t, d)
			holdInteger(t, d|minus)
		}
	}
}

// P17.4: drawn doubles.
func TestIntegerDrawn(t *testing.T) {
	seed := uint64(174)
	for range 200000 {
		holdInteger(t, drawDouble(&seed))
	}
}

// P17.4: the document's examples of ToStr.
func TestToStrExamples(t *testing.T) {
	inf := math.Inf(1)
	for _, c := range []struct {
		v       api.Value
		convfmt string
		text    string
	}{
		{num(0.1), "%.6g", "0.1"}, {num(3), "junk", "3"}, {num(0.5), "a%.2fb%%", "a0.50b%"}, {num(1 << 63), "%.6g", "9.22337e+18"}, {num(-1 << 63), "%.6g", "-9.22337e+18"}, {pattern(api.NaN), "%.6g", "nan"}, {pattern(api.NaN | minus), "%.6g", "-nan"}, {num(-inf), "%.6g", "-inf"}, {num(inf), "%E", "INF"},
		{str("0.10"), "junk", "0.10"}, {value.Input("0.10"), "junk", "0.10"}, {value.Input(" +1e2\n"), "%.6g", " +1e2\n"}, {pattern(minus), "junk", "0"}, {pattern(minus), "%.3f", "0"}, {num(17), "%.3f", "17"}, {num(1e18), "%.1e", "1000000000000000000"}, {num(-3), "", "-3"},
		{api.Value{}, "junk", ""}, {api.Value{Num: bits(0.5), Str: "x"}, "%.6g", ""}, {strnum(bits(0.5), "x"), "junk", "x"}, {strnum(bits(0.5), ""), "%.6g", ""}, {str(""), "junk", ""},
		{num(3.14159265), "%.6g", "3.14159"}, {num(1e-10), "%.6g", "1e-10"}, {num(1e300), "%.6g", "1e+300"}, {num(1e19), "%.30g", "10000000000000000000"}, {num(0.5), "%5.1f|", "  0.5|"}, {num(0.5), "%%%g%%%%", "%0.5%%"}, {num(-0.5), "<%-8.2e>", "<-5.00e-01>"}, {num(0.5), "%08.3F", "0000.500"}, {num(2.5), "%.0f", "2"}, {num(0.5), "%+G", "+0.5"}, {num(0.5), "%g\x00\xff", "0.5\x00\xff"}, {num(inf), "%06.1f", "   inf"}, {num(0.5), "%f", "0.500000"},
	} {
		holdToStr(t, c.v, c.convfmt, c.text, api.OK)
	}
}

// P17.4: what is no conversion format is ErrConv where one is needed, and not looked at where none is.
func TestNoConvfmt(t *testing.T) {
	for _, convfmt := range []string{"", "junk", "%", "%%", "%d", "%i", "%o", "%u", "%x", "%X", "%c", "%s", "%a", "%q", "%5", "%.", "%.6", "%g%", "%g%5", "%g%q", "%g%g", "%g%d", "%d%g", "%g%s", "%*g", "%.*g", "%*.*g", "%5000g", "%4097g", "%.4097g", "%lg", "%5%", "%%g", strings.Repeat("x", api.MaxText+1), strings.Repeat("x", api.MaxText) + "%d"} {
		for _, d := range []uint64{bits(0.5), bits(1 << 63), bits(-1 << 63), bits(1e300), 1, api.NaN, api.NaN | minus, api.Inf, api.Inf | minus} {
			holdToStr(t, pattern(d), convfmt, "", api.ErrConv)
		}
		holdToStr(t, num(-42), convfmt, "-42", api.OK)
		holdToStr(t, pattern(minus), convfmt, "0", api.OK)
		holdToStr(t, str("0.5"), convfmt, "0.5", api.OK)
		holdToStr(t, strnum(bits(0.5), " .5 "), convfmt, " .5 ", api.OK)
		holdToStr(t, api.Value{}, convfmt, "", api.OK)
		for _, kind := range wrongKinds() {
			holdToStr(t, api.Value{Kind: kind, Num: bits(0.5), Str: "x"}, convfmt, "", api.OK)
		}
	}
}

// drawFormat: a conversion format, and the text that it makes of d where d isn't whole.
func drawFormat(t *testing.T, seed *uint64, d uint64) (string, string) {
	s := api.Spec{Verb: pick(seed, []byte("eEfFgG")...), Flags: between(seed, 0, 31), Width: between(seed, 0, 30), Prec: between(seed, -1, 25)}
	if random(seed)%64 == 0 {
		s.Width, s.Prec = pick(seed, 0, 4095, 4096), pick(seed, -1, 0, 4095, 4096)
	}
	p := api.Piece{Verb: s.Verb, Flags: s.Flags, Width: s.Width}
	if s.Width > 0 {
		p.WidthKind = api.HasNumber
	}
	if s.Prec >= 0 {
		p.PrecKind, p.Prec = api.HasNumber, s.Prec
	}
	written, e := directive.Print([]api.Piece{p})
	body, fault := point.Render(s, d)
	if e != api.OK || fault != api.OK {
		t.Fatalf("the drawn Spec %+v has error %d, %d", s, e, fault)
	}
	texts := []string{"", "", "x", "a b", "\x00", "%", "%%x%", "5.2g"}
	ahead, behind := pick(seed, texts...), pick(seed, texts...)
	escape := func(s string) string { return strings.ReplaceAll(s, "%", "%%") }
	return escape(ahead) + written + escape(behind), ahead + body + behind
}

// P17.4: drawn formats and doubles: whole numbers below 2^63 as whole numbers, all others as point renders them between the texts.
func TestToStrDrawn(t *testing.T) {
	seed := uint64(1741)
	for range 100000 {
		d := drawDouble(&seed)
		convfmt, want := drawFormat(t, &seed, d)
		if row, ok := digits(d); ok {
			want = row
		}
		holdToStr(t, pattern(d), convfmt, want, api.OK)
	}
}

// P17.4: the same by another library's digits.
func TestToStrFloats(t *testing.T) {
	seed := uint64(1742)
	for range 50000 {
		d := drawDouble(&seed)
		if _, ok := digits(d); ok || d&api.Inf == api.Inf {
			continue
		}
		holdToStr(t, pattern(d), "%.6g", strconv.FormatFloat(float(d), 'g', 6, 64), api.OK)
		holdToStr(t, pattern(d), "%.17e", strconv.FormatFloat(float(d), 'e', 17, 64), api.OK)
		holdToStr(t, pattern(d), "%.3f", strconv.FormatFloat(float(d), 'f', 3, 64), api.OK)
	}
}

// P17.4: a string and a strnum may have any length; what a format makes may have MaxText bytes, and not one more. How long the format is doesn't count.
func TestToStrLong(t *testing.T) {
	long := strings.Repeat("x", api.MaxText+1)
	full := long[1:]
	holdToStr(t, str(long), "%g", long, api.OK)
	holdToStr(t, strnum(api.One, long), "%g", long, api.OK)
	holdToStr(t, num(3), long+"%g", "3", api.OK)
	holdToStr(t, num(0.5), full[3:]+"%g", full[3:]+"0.5", api.OK)
	holdToStr(t, num(0.5), "%g"+full[3:], "0.5"+full[3:], api.OK)
	holdToStr(t, num(0.5), full[:9]+"%g"+full[12:], full[:9]+"0.5"+full[12:], api.OK)
	holdToStr(t, num(0.5), full[2:]+"%g", "", api.ErrLong)
	holdToStr(t, num(0.5), "%g"+full[2:], "", api.ErrLong)
	holdToStr(t, num(0.5), full[:9]+"%g"+full[11:], "", api.ErrLong)
	holdToStr(t, num(-0.5), full[3:]+"%g", "", api.ErrLong)
	holdToStr(t, pattern(api.NaN), long+"%g"+long, "", api.ErrLong)
	holdToStr(t, num(0.5), full[4096:]+"%4096g", full[4096:]+strings.Repeat(" ", 4093)+"0.5", api.OK)
	holdToStr(t, num(0.5), full[4095:]+"%4096g", "", api.ErrLong)
	percents := strings.Repeat("%", 100)
	holdToStr(t, num(0.5), full[103:]+"%g"+percents+percents, full[103:]+"0.5"+percents, api.OK)
	holdToStr(t, num(0.5), full[102:]+"%g"+percents+percents, "", api.ErrLong)
	holdToStr(t, num(0.5), long+"%g%", "", api.ErrConv)
}
