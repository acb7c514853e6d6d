package spell_test

import (
	"math"
	"strings"
	"testing"

	"abacus/api"
)

// textual: a text as an argument.
func textual(s string) api.Arg { return api.Arg{Text: true, Str: s} }

// numeric: a number as an argument.
func numeric(x float64) api.Arg { return api.Arg{Num: bits(x)} }

// P19.1: the document's cases one by one.
func TestArgCases(t *testing.T) {
	for _, c := range []struct {
		convfmt string
		verb    byte
		v       api.Value
		a       api.Arg
		e       api.Errno
	}{
		{"%.2f", 's', num(0.5), textual("0.50"), api.OK},
		{"%d", 's', num(0.5), api.Arg{}, api.ErrConv},
		{"%d", 's', num(5), textual("5"), api.OK},
		{"%d", 's', strnum(0.5, " .50 "), textual(" .50 "), api.OK},
		{"%d", 's', str("0.5"), textual("0.5"), api.OK},
		{"%d", 's', str(""), textual(""), api.OK},
		{"%d", 's', api.Value{}, textual(""), api.OK},
		{"%d", 's', kind(7), textual(""), api.OK},
		{"%.6g", 's', pattern(api.NaN), textual("nan"), api.OK},
		{"%.6g", 's', pattern(api.NaN | minus), textual("-nan"), api.OK},
		{"%.6g", 's', num(math.Copysign(0, -1)), textual("0"), api.OK},
		{"%d", 'c', num(0.5), numeric(0.5), api.OK},
		{"%d", 'c', num(65), numeric(65), api.OK},
		{"%d", 'c', strnum(65, "65"), numeric(65), api.OK},
		{"%d", 'c', strnum(65, ""), numeric(65), api.OK},
		{"%d", 'c', str("65"), textual("65"), api.OK},
		{"%d", 'c', str(""), textual(""), api.OK},
		{"%d", 'c', api.Value{}, textual(""), api.OK},
		{"%d", 'c', kind(-1), textual(""), api.OK},
		{"%d", 'c', pattern(api.NaN | 1), api.Arg{Num: api.NaN | 1}, api.OK},
		{"%d", 'd', str("3x"), numeric(3), api.OK},
		{"%d", 'd', str("x3"), numeric(0), api.OK},
		{"%d", 'x', str(" -0"), numeric(math.Copysign(0, -1)), api.OK},
		{"%d", 'g', strnum(7, "8"), numeric(7), api.OK},
		{"%d", 'f', num(0.1), numeric(0.1), api.OK},
		{"%d", 'i', api.Value{}, api.Arg{}, api.OK},
		{"%d", 'u', kind(4), api.Arg{}, api.OK},
		{"%d", 'S', num(0.5), numeric(0.5), api.OK},
		{"%d", 'C', str("7a"), numeric(7), api.OK},
		{"%d", 0, num(0.5), numeric(0.5), api.OK},
		{"%d", '*', str("12"), numeric(12), api.OK},
		{"%d", '%', str("12"), numeric(12), api.OK},
		{"%d", 0xff, api.Value{}, api.Arg{}, api.OK},
	} {
		holdArg(t, c.convfmt, c.verb, c.v, c.a, c.e)
	}
}

// P19.1: every byte as a verb, with values of every kind, held against the host's floats and printf.
func TestArgAllVerbs(t *testing.T) {
	for _, convfmt := range []string{"%.6g", "%.30f", "x%.2ey%%", "%d", "", "%"} {
		for _, v := range samples() {
			for verb := range 256 {
				a, e := argOf(convfmt, byte(verb), v)
				holdArg(t, convfmt, byte(verb), v, a, e)
			}
		}
	}
}

// P19.1: a format that is none is an error just where the text of a number is wanted that isn't whole.
func TestArgNeedsFormat(t *testing.T) {
	for _, convfmt := range []string{"", "x", "%", "%d", "%s", "%c", "%g%g", "%*g", "%.*g", "%.6", "%4097g", "%.4097g", "%lg", strings.Repeat("x", api.MaxText+1)} {
		for _, d := range []uint64{bits(0.5), bits(1 << 63), bits(-1 << 63), 1, api.NaN, api.NaN | minus, api.Inf, api.Inf | minus} {
			holdArg(t, convfmt, 's', pattern(d), api.Arg{}, api.ErrConv)
			holdArg(t, convfmt, 'c', pattern(d), api.Arg{Num: d}, api.OK)
			holdArg(t, convfmt, 'd', pattern(d), api.Arg{Num: d}, api.OK)
			holdArg(t, convfmt, 's', api.Value{Kind: api.KindStrnum, Num: d, Str: "7"}, textual("7"), api.OK)
		}
		holdArg(t, convfmt, 's', num(-42), textual("-42"), api.OK)
	}
}

// P19.1: a text that a format makes may have MaxText bytes and not one more; a string and a strnum any number.
func TestArgLong(t *testing.T) {
	long := strings.Repeat("x", api.MaxText+1)
	full := long[1:]
	holdArg(t, full[3:]+"%g", 's', num(0.5), textual(full[3:]+"0.5"), api.OK)
	holdArg(t, full[2:]+"%g", 's', num(0.5), api.Arg{}, api.ErrLong)
	holdArg(t, full[2:]+"%g", 's', num(5), textual("5"), api.OK)
	holdArg(t, full[2:]+"%g", 'c', num(0.5), numeric(0.5), api.OK)
	holdArg(t, long+"%g%", 's', num(0.5), api.Arg{}, api.ErrConv)
	holdArg(t, "%g", 's', str(long), textual(long), api.OK)
	holdArg(t, "%g", 's', strnum(1, long), textual(long), api.OK)
	holdArg(t, "%g", 'c', str(long), textual(long), api.OK)
	holdArg(t, "%g", 'd', str(strings.Repeat(" ", api.MaxText)+"12"), numeric(12), api.OK)
}
