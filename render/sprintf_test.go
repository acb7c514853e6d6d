package render_test

import (
	"math"
	"strings"
	"testing"

	"abacus/api"
	"abacus/directive"
	"abacus/render"
)

// P16.3: the document's examples, of this chapter and of the whole.
func TestSprintfExamples(t *testing.T) {
	for _, c := range []struct {
		format string
		args   []api.Arg
		text   string
		e      api.Errno
	}{
		{"%d items, %5.1f%%", []api.Arg{num(3), num(99.5)}, "3 items,  99.5%", api.OK},
		{"[%*d|%-*d]", []api.Arg{num(5), num(42), num(5), num(42)}, "[   42|42   ]", api.OK},
		{"[%*d]", []api.Arg{num(-5), num(42)}, "[42   ]", api.OK},
		{"%.*f", []api.Arg{num(2), num(3.14159)}, "3.14", api.OK},
		{"%.*f", []api.Arg{num(-1), num(3.14159)}, "3.141590", api.OK},
		{"%s %s", []api.Arg{str("a")}, "", api.ErrFew},
		{"%s", []api.Arg{num(5)}, "", api.ErrKind},
		{"%d", []api.Arg{str("5")}, "", api.ErrKind},
		{"%c%c", []api.Arg{num(65), str("Bcd")}, "AB", api.OK},
		{"%c", []api.Arg{num(321.9)}, "A", api.OK},
		{"%c", []api.Arg{pattern(api.NaN)}, "", api.ErrFinite},
		{"%*d", []api.Arg{num(5000), num(1)}, "", api.ErrWide},
		{"%*d", []api.Arg{pattern(api.NaN), num(1)}, "", api.ErrWide},
		{"%*d", []api.Arg{num(5.9), num(1)}, "    1", api.OK},
		{"%*s", []api.Arg{str("x")}, "", api.ErrFew},
		{"%*s", []api.Arg{str("x"), str("y")}, "", api.ErrKind},
		{"%d", []api.Arg{num(1), num(2), str("left over")}, "1", api.OK},
		{"plain", nil, "plain", api.OK},
		{"", nil, "", api.OK},
		{"%q", []api.Arg{num(1)}, "", api.ErrVerb},
		{"%s%q", nil, "", api.ErrVerb},
		{"%x %u", []api.Arg{num(-1), num(-1.5)}, "ffffffffffffffff 18446744073709551615", api.OK},
		{"%d", []api.Arg{num(1e23)}, "99999999999999991611392", api.OK},
		{"%d", []api.Arg{num(-0.5)}, "0", api.OK},
		{"%06d", []api.Arg{num(math.Inf(-1))}, "  -inf", api.OK},
		{"%5.2f|%d|%x", []api.Arg{num(3.14159), num(42), num(-1)}, " 3.14|42|ffffffffffffffff", api.OK},
		{"%.0f %.0f %.0f %.31g\n", []api.Arg{num(0.5), num(1.5), num(2.5), num(1 << 100)}, "0 2 2 1267650600228229401496703205376\n", api.OK},
	} {
		holdSprintf(t, c.format, c.args, c.text, c.e)
	}
}

// P16.3: a fault of the format is told ahead of those of the arguments and of the length, wherever it stands.
func TestFormatFaults(t *testing.T) {
	long := strings.Repeat("x", api.MaxText+1)
	for _, c := range []struct {
		format string
		e      api.Errno
	}{{"%", api.ErrEnds}, {"%5", api.ErrEnds}, {"%.", api.ErrEnds}, {"%*", api.ErrEnds}, {"%5%", api.ErrVerb}, {"%ld", api.ErrVerb}, {"%a", api.ErrVerb}, {"%4097d", api.ErrWide}, {"%.4097d", api.ErrWide}} {
		for _, ahead := range []string{"", "%d", "%c%s", "%*d", "text", long} {
			for _, args := range [][]api.Arg{nil, {str("x")}, {pattern(api.NaN), num(1), str("y"), num(1)}} {
				holdSprintf(t, ahead+c.format, args, "", c.e)
			}
		}
	}
}

// P16.3: a format has no limit of its own: only what is made counts.
func TestLongFormats(t *testing.T) {
	long := strings.Repeat("0", api.MaxText+1)
	holdSprintf(t, "%"+long+"5d", []api.Arg{num(7)}, "00007", api.OK)
	holdSprintf(t, "%."+long+"3d|", []api.Arg{num(7)}, "007|", api.OK)
	holdSprintf(t, long, nil, "", api.ErrLong)
	holdSprintf(t, long+"%d", nil, "", api.ErrLong)
	holdSprintf(t, "%d"+long, nil, "", api.ErrFew)
	holdSprintf(t, long[1:], nil, long[1:], api.OK)
	holdSprintf(t, long[2:]+"%%", nil, long[2:]+"%", api.OK)
	holdSprintf(t, long[1:]+"%%", nil, "", api.ErrLong)
	holdSprintf(t, long[2:]+"%d", []api.Arg{num(7)}, long[2:]+"7", api.OK)
	holdSprintf(t, long[2:]+"%d", []api.Arg{num(77)}, "", api.ErrLong)
}

// P16.3: drawn formats, most of them right: what Pieces answers of Parse's pieces, or Parse's error.
func TestSprintfDrawn(t *testing.T) {
	seed := uint64(163)
	met := map[api.Errno]int{}
	for range 40000 {
		format := ""
		for range between(&seed, 0, 4) {
			p := drawPiece(&seed)
			part, _ := directive.Print([]api.Piece{p})
			format += part
			if random(&seed)%40 == 0 {
				format += pick(&seed, "%", "%q", "%5%", "%9999d", "%-")
			}
		}
		pieces, _, e := directive.Parse(format)
		args, text := drawArgs(&seed, pieces), ""
		if e == api.OK {
			text, e = render.Pieces(pieces, args)
		}
		met[e]++
		holdSprintf(t, format, args, text, e)
	}
	for _, e := range []api.Errno{api.OK, api.ErrVerb, api.ErrEnds, api.ErrFew, api.ErrKind, api.ErrWide, api.ErrFinite} {
		if met[e] < 10 {
			t.Errorf("error %d was met %d times only", e, met[e])
		}
	}
}

// P1: many directives in one format, all arguments taken.
func TestManyDirectives(t *testing.T) {
	const n = 100000
	args := make([]api.Arg, n)
	for i := range args {
		args[i] = num(float64(i % 10))
	}
	holdSprintf(t, strings.Repeat("%d", n), args, strings.Repeat("0123456789", n/10), api.OK)
	holdSprintf(t, strings.Repeat("%d", n+1), args, "", api.ErrFew)
	holdSprintf(t, strings.Repeat("%4096d", n), args, "", api.ErrLong)
}
