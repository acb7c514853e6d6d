package spell_test

import (
	"math"
	"strings"
	"testing"

	"abacus/api"
	"abacus/directive"
	"abacus/render"
)

// P19.2: the document's examples, of this chapter and of the whole.
func TestSprintfExamples(t *testing.T) {
	none := api.Value{}
	for _, c := range []struct {
		convfmt, format string
		vals            []api.Value
		text            string
		e               api.Errno
	}{
		{"%.6g", "%d-%s", []api.Value{str("3x"), num(0.1)}, "3-0.1", api.OK},
		{"%.2f", "%s %s", []api.Value{num(3.14159), num(17)}, "3.14 17", api.OK},
		{"%d", "%s", []api.Value{num(0.5)}, "", api.ErrConv},
		{"%d", "%s", []api.Value{num(5)}, "5", api.OK},
		{"%d", "%d", []api.Value{num(0.5)}, "0", api.OK},
		{"%.6g", "%c%c%c", []api.Value{num(65), strnum(65, "65"), str("65")}, "AA6", api.OK},
		{"%.6g", "[%c]", []api.Value{none}, "[]", api.OK},
		{"%.6g", "[%d]", []api.Value{none}, "[0]", api.OK},
		{"%.6g", "[%s]", []api.Value{none}, "[]", api.OK},
		{"%.6g", "[%3c]", []api.Value{none}, "[   ]", api.OK},
		{"%.6g", "%*s|", []api.Value{str("4"), str("ab")}, "  ab|", api.OK},
		{"%.6g", "%*s|", []api.Value{str("wide"), str("ab")}, "ab|", api.OK},
		{"%.6g", "%s %s", []api.Value{str("a")}, "", api.ErrFew},
		{"%d", "%s%s", []api.Value{num(0.5)}, "", api.ErrConv},
		{"%.6g", "%5.2f|%d|%x", []api.Value{num(3.14159), str("42x"), num(-1)}, " 3.14|42|ffffffffffffffff", api.OK},
		{"%.6g", "%.0f %.0f %.0f %.31g\n", []api.Value{num(0.5), num(1.5), num(2.5), num(1 << 100)}, "0 2 2 1267650600228229401496703205376\n", api.OK},
		{"%.6g", "%.17g\n", []api.Value{num(0.30000000000000004)}, "0.30000000000000004\n", api.OK},
		{"%.6g", "", nil, "", api.OK},
		{"", "100%%\n", nil, "100%\n", api.OK},
		{"", "a%%b", []api.Value{none}, "a%b", api.OK},
		{"%.6g", "%s|%5.1f", []api.Value{strnum(2.5, " 2.50 "), strnum(2.5, " 2.50 ")}, " 2.50 |  2.5", api.OK},
		{"%.1f", "%.2s", []api.Value{num(123.45)}, "12", api.OK},
		{"%.6g", "%d %d", []api.Value{pattern(api.NaN), num(math.Inf(-1))}, "nan -inf", api.OK},
		{"%.6g", "%d %s", []api.Value{str("nan"), str("nan")}, "0 nan", api.OK},
		{"%.6g", "%c", []api.Value{num(321.9)}, "A", api.OK},
	} {
		holdSprintf(t, c.convfmt, c.format, c.vals, c.text, c.e)
	}
}

// P19.2: a star's argument is the number of its value, whatever the kind, and is cut as layer 16 cuts it.
func TestSprintfStars(t *testing.T) {
	long := strings.Repeat(" ", 4094)
	for _, c := range []struct {
		format string
		star   api.Value
		text   string
		e      api.Errno
	}{
		{"[%*d]", num(5), "[   42]", api.OK}, {"[%*d]", str("5"), "[   42]", api.OK}, {"[%*d]", str(" 5.9kg"), "[   42]", api.OK}, {"[%*d]", strnum(5, "9"), "[   42]", api.OK},
		{"[%*d]", str("-5"), "[42   ]", api.OK}, {"[%*d]", num(-5.99), "[42   ]", api.OK}, {"[%*d]", strnum(-5, "x"), "[42   ]", api.OK}, {"[%0*d]", str("5"), "[00042]", api.OK},
		{"[%*d]", api.Value{}, "[42]", api.OK}, {"[%*d]", kind(9), "[42]", api.OK}, {"[%*d]", str(""), "[42]", api.OK}, {"[%*d]", str("nan"), "[42]", api.OK}, {"[%*d]", str("inf"), "[42]", api.OK}, {"[%*d]", str("0x9"), "[42]", api.OK},
		{"[%*d]", str("4096.9"), "[" + long + "42]", api.OK}, {"[%*d]", str("-4096.9"), "[42" + long + "]", api.OK},
		{"[%.*d]", str("5"), "[00042]", api.OK}, {"[%.*f]", str("1"), "[42.0]", api.OK}, {"[%.*f]", api.Value{}, "[42]", api.OK}, {"[%.*f]", str("-1"), "[42.000000]", api.OK}, {"[%.*f]", str("-1e300"), "[42.000000]", api.OK}, {"[%.*f]", strnum(2, "3"), "[42.00]", api.OK},
		{"[%*d]", str("4097"), "", api.ErrWide}, {"[%*d]", str("-4097"), "", api.ErrWide}, {"[%*d]", str("1e400"), "", api.ErrWide}, {"[%*d]", num(4097), "", api.ErrWide}, {"[%*d]", num(-1e300), "", api.ErrWide}, {"[%*d]", num(1<<32 + 5), "", api.ErrWide},
		{"[%*d]", pattern(api.NaN), "", api.ErrWide}, {"[%*d]", num(math.Inf(-1)), "", api.ErrWide}, {"[%*d]", strnum(math.NaN(), "5"), "", api.ErrWide},
		{"[%.*d]", str("4097"), "", api.ErrWide}, {"[%.*d]", pattern(api.NaN | minus), "", api.ErrWide}, {"[%.*d]", str("-1e400"), "", api.ErrWide}, {"[%.*d]", num(math.Inf(-1)), "", api.ErrWide},
	} {
		holdSprintf(t, "", c.format, []api.Value{c.star, str("42")}, c.text, c.e)
	}
	holdSprintf(t, "", "%*.*f|%-*s|%.*s", []api.Value{str("8"), strnum(2, "x"), str("1.5"), num(4), str("ab"), str("1"), strnum(0, "xyz")}, "    1.50|ab  |x", api.OK)
}

// P19.2: the errors' order within a directive, each beside those that come behind it, and from the left.
func TestSprintfErrorOrder(t *testing.T) {
	nan, half, wide := pattern(api.NaN), num(0.5), str("5000")
	full := strings.Repeat("x", api.MaxText)
	for _, c := range []struct {
		format string
		vals   []api.Value
		e      api.Errno
	}{
		{"%s", nil, api.ErrFew}, {"%*s", []api.Value{half}, api.ErrFew}, {"%*s", []api.Value{wide}, api.ErrFew}, {"%.*s", []api.Value{nan}, api.ErrFew}, {"%*.*s", []api.Value{wide, half}, api.ErrFew}, {full + "%s", nil, api.ErrFew},
		{"%*s", []api.Value{wide, half}, api.ErrWide}, {"%.*s", []api.Value{wide, half}, api.ErrWide}, {"%*.*s", []api.Value{num(1), nan, half}, api.ErrWide}, {"%*.*s", []api.Value{nan, num(1), half}, api.ErrWide},
		{"%*c", []api.Value{wide, nan}, api.ErrWide}, {"%.*c", []api.Value{nan, nan}, api.ErrWide}, {"%*s", []api.Value{wide, str(full + "y")}, api.ErrWide}, {full + "%*d", []api.Value{wide, num(1)}, api.ErrWide},
		{"%s", []api.Value{half}, api.ErrConv}, {"%*s", []api.Value{num(9), half}, api.ErrConv}, {"%.0s", []api.Value{half}, api.ErrConv}, {full + "%s", []api.Value{half}, api.ErrConv}, {"%*.*s", []api.Value{num(4096), num(-9), nan}, api.ErrConv},
		{"%c", []api.Value{nan}, api.ErrFinite}, {"%c", []api.Value{num(math.Inf(1))}, api.ErrFinite}, {"%c", []api.Value{strnum(math.Inf(-1), "5")}, api.ErrFinite}, {"%*c", []api.Value{half, nan}, api.ErrFinite}, {full + "%c", []api.Value{nan}, api.ErrFinite},
		{"%s", []api.Value{str(full + "y")}, api.ErrLong}, {"%s", []api.Value{strnum(1, full+"y")}, api.ErrLong}, {full + "%c", []api.Value{half}, api.ErrLong}, {full + "%%", nil, api.ErrLong}, {"%d" + full, []api.Value{nan}, api.ErrLong},
		{"%s%d", []api.Value{half}, api.ErrConv}, {"%c%s", []api.Value{nan, half}, api.ErrFinite}, {"%s%c", []api.Value{half, nan}, api.ErrConv}, {"%d%d", []api.Value{half}, api.ErrFew}, {"%*d%s", []api.Value{wide, half, half}, api.ErrWide},
		{full + "%%%s", []api.Value{half}, api.ErrLong}, {full + "%d%d", []api.Value{half}, api.ErrLong}, {full + "%c%s", []api.Value{half, half}, api.ErrLong}, {"%s" + full + "y", []api.Value{half}, api.ErrConv},
	} {
		holdSprintf(t, "%d", c.format, c.vals, "", c.e)
	}
}

// P19.2: a fault of the format is told ahead of all that the values have, wherever it stands.
func TestSprintfFormatFaults(t *testing.T) {
	long := strings.Repeat("x", api.MaxText+1)
	for _, c := range []struct {
		format string
		e      api.Errno
	}{{"%", api.ErrEnds}, {"%5", api.ErrEnds}, {"%.", api.ErrEnds}, {"%*", api.ErrEnds}, {"%5%", api.ErrVerb}, {"%ld", api.ErrVerb}, {"%l", api.ErrVerb}, {"%a", api.ErrVerb}, {"%4097d", api.ErrWide}, {"%.4097d", api.ErrWide}} {
		for _, ahead := range []string{"", "%d", "%c%s", "%*d", "text", long} {
			for _, vals := range [][]api.Value{nil, {num(0.5)}, {pattern(api.NaN), num(0.5), str("y"), {}}} {
				holdSprintf(t, "%d", ahead+c.format, vals, "", c.e)
			}
		}
	}
}

// P19.2: values that are left over aren't looked at.
func TestSprintfLeftOver(t *testing.T) {
	long := str(strings.Repeat("x", api.MaxText+1))
	left := []api.Value{num(0.5), pattern(api.NaN), long, kind(minInt)}
	holdSprintf(t, "%d", "", left, "", api.OK)
	holdSprintf(t, "%d", "plain%%", left, "plain%", api.OK)
	holdSprintf(t, "%d", "%d", append([]api.Value{num(1)}, left...), "1", api.OK)
	holdSprintf(t, "%d", "%*s|", append([]api.Value{num(3), str("a")}, left...), "  a|", api.OK)
}

// P19.2: MaxText bytes in all may be made, and not one more; how long a value's text is doesn't count where it is cut.
func TestSprintfLong(t *testing.T) {
	long := strings.Repeat("x", api.MaxText+1)
	full := long[1:]
	half := full[:api.MaxText/2]
	holdSprintf(t, "", "%s", []api.Value{str(full)}, full, api.OK)
	holdSprintf(t, "", "%s", []api.Value{str(long)}, "", api.ErrLong)
	holdSprintf(t, "", "%.3s|%c|%.0s", []api.Value{str(long), str(long), strnum(1, long)}, "xxx|x|", api.OK)
	holdSprintf(t, "", "%s%s%s", []api.Value{str(half), strnum(1, half), {}}, full, api.OK)
	holdSprintf(t, "", "%s%s%d", []api.Value{str(half), strnum(1, half), {}}, "", api.ErrLong)
	holdSprintf(t, "", full, nil, full, api.OK)
	holdSprintf(t, "", full+"%s", []api.Value{{}}, full, api.OK)
	holdSprintf(t, "", long, nil, "", api.ErrLong)
	holdSprintf(t, "", full[1:]+"%%", nil, full[1:]+"%", api.OK)
	holdSprintf(t, "", full[1:]+"%d", []api.Value{num(7)}, full[1:]+"7", api.OK)
	holdSprintf(t, "", full[1:]+"%d", []api.Value{num(77)}, "", api.ErrLong)
	holdSprintf(t, "", full[4096:]+"%4096s", []api.Value{{}}, full[4096:]+strings.Repeat(" ", 4096), api.OK)
	holdSprintf(t, "", full[4095:]+"%4096s", []api.Value{{}}, "", api.ErrLong)
	holdSprintf(t, full[3:]+"%g", "%s", []api.Value{num(0.5)}, full[3:]+"0.5", api.OK)
	holdSprintf(t, full[2:]+"%g", "%.1s", []api.Value{num(0.5)}, "", api.ErrLong)
	holdSprintf(t, full[2:]+"%g", "%*.1s", []api.Value{pattern(api.NaN), num(0.5)}, "", api.ErrWide)
	holdSprintf(t, full[2:]+"%g", "%.1f", []api.Value{num(0.5)}, "0.5", api.OK)
}

// settled: the Spec that the numbers of a directive's stars make of it, told by floats; ErrWide.
func settled(p api.Piece, stars []api.Value) (api.Spec, api.Errno) {
	s := api.Spec{Verb: p.Verb, Flags: p.Flags, Width: p.Width, Prec: p.Prec}
	if p.PrecKind == api.NoNumber {
		s.Prec = -1
	}
	if p.WidthKind == api.HasStar {
		x := math.Trunc(math.Float64frombits(numOf(stars[0])))
		if !(math.Abs(x) <= 4096) {
			return s, api.ErrWide
		}
		if x < 0 {
			s.Flags |= api.Minus
		}
		s.Width = int(math.Abs(x))
	}
	if p.PrecKind == api.HasStar {
		x := math.Trunc(math.Float64frombits(numOf(stars[len(stars)-1])))
		if !(x <= 4096) || math.IsInf(x, 0) {
			return s, api.ErrWide
		}
		s.Prec = int(math.Max(x, -1))
	}
	return s, api.OK
}

// count: how many values a piece takes.
func count(p api.Piece) int {
	if p.Verb == 0 || p.Verb == '%' {
		return 0
	}
	n := 1
	for _, kind := range []int{p.WidthKind, p.PrecKind} {
		if kind == api.HasStar {
			n++
		}
	}
	return n
}

// joined: what Sprintf must answer of these pieces.
func joined(convfmt string, pieces []api.Piece, vals []api.Value) (string, api.Errno) {
	out := ""
	for _, p := range pieces {
		n := count(p)
		switch {
		case p.Verb == '%':
			out += "%"
			continue
		case n == 0:
			out += p.Text
			continue
		case len(vals) < n:
			return "", api.ErrFew
		}
		s, e := settled(p, vals[:n-1])
		if e != api.OK {
			return "", e
		}
		a, e := argOf(convfmt, p.Verb, vals[n-1])
		if e != api.OK {
			return "", e
		}
		text, e := render.One(s, a)
		if e != api.OK {
			return "", e
		}
		out += text
		vals = vals[n:]
	}
	return out, api.OK
}

// drawPiece: a piece in form.
func drawPiece(seed *uint64) api.Piece {
	switch between(seed, 0, 7) {
	case 0:
		return api.Piece{Text: pick(seed, "a", " b ", "\x00", "\xff\n")}
	case 1:
		return api.Piece{Verb: '%'}
	}
	p := api.Piece{Verb: pick(seed, []byte(verbs+"ssscc")...), Flags: between(seed, 0, 31), WidthKind: between(seed, 0, 2), PrecKind: between(seed, 0, 2)}
	if p.WidthKind == api.HasNumber {
		p.Width = between(seed, 1, 20)
	}
	if p.PrecKind == api.HasNumber {
		p.Prec = between(seed, 0, 20)
	}
	return p
}

// P19.2: drawn formats and values, held against answers that are put together another way.
func TestSprintfDrawn(t *testing.T) {
	seed := uint64(192)
	met := map[api.Errno]int{}
	for range 60000 {
		format, wanted := "", 0
		for range between(&seed, 0, 4) {
			p := drawPiece(&seed)
			part, _ := directive.Print([]api.Piece{p})
			format += part
			wanted += count(p)
			if random(&seed)%60 == 0 {
				format += pick(&seed, "%", "%q", "%5%", "%9999d", "%-")
			}
		}
		vals := drawList(&seed, max(0, wanted+pick(&seed, -1, 0, 0, 0, 0, 1, 2)))
		convfmt := pick(&seed, "%.6g", "%.2f", "<%.9e>", "%%%.3g%%", "%d")
		pieces, _, e := directive.Parse(format)
		text := ""
		if e == api.OK {
			text, e = joined(convfmt, pieces, vals)
		}
		met[e]++
		holdSprintf(t, convfmt, format, vals, text, e)
	}
	for _, e := range []api.Errno{api.OK, api.ErrVerb, api.ErrEnds, api.ErrFew, api.ErrWide, api.ErrConv, api.ErrFinite} {
		if met[e] < 50 {
			t.Errorf("error %d was met %d times only", e, met[e])
		}
	}
}

// P19.2: each verb with values of every kind.
func TestSprintfAllVerbs(t *testing.T) {
	for _, convfmt := range []string{"%.6g", "%d"} {
		for _, v := range samples() {
			for _, verb := range verbs {
				for _, form := range []string{"%", "%8.3", "%-+#7", "%*", "%.*"} {
					format := form + string(verb)
					pieces, _, _ := directive.Parse(format)
					vals := []api.Value{v}
					if strings.Contains(form, "*") {
						vals = []api.Value{v, v}
					}
					text, e := joined(convfmt, pieces, vals)
					holdSprintf(t, convfmt, format, vals, text, e)
				}
			}
		}
	}
}

// P1: many directives in one format, all values taken.
func TestSprintfMany(t *testing.T) {
	const n = 100000
	vals := make([]api.Value, n)
	for i := range vals {
		vals[i] = num(float64(i % 10))
	}
	for _, format := range []string{"%d", "%s"} {
		holdSprintf(t, "", strings.Repeat(format, n), vals, strings.Repeat("0123456789", n/10), api.OK)
		holdSprintf(t, "", strings.Repeat(format, n+1), vals, "", api.ErrFew)
	}
	holdSprintf(t, "", strings.Repeat("%4096s", n), vals, "", api.ErrLong)
	holdSprintf(t, "", strings.Repeat("%*s", n/2), vals, strings.Repeat("1 3   5     7       9", n/10), api.OK)
}
