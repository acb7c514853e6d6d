package directive_test

import (
	"strings"
	"testing"

	"abacus/api"
	"abacus/directive"
)

// P13.6: the document's examples of Settle, the ends of the numbers, and what isn't looked at.
func TestSettleExamples(t *testing.T) {
	star, prec := api.Piece{Verb: 'd', WidthKind: 2}, api.Piece{Verb: 'e', PrecKind: 2}
	both := api.Piece{Verb: 'G', Flags: 10, WidthKind: 2, PrecKind: 2}
	fixed := api.Piece{Verb: 'e', WidthKind: 1, Width: 5, PrecKind: 1, Prec: 3}
	none := api.Piece{Verb: 'x', Flags: 16}
	for _, c := range []struct {
		p     api.Piece
		width int
		prec  int
		want  api.Spec
		e     api.Errno
	}{
		{star, -7, 0, api.Spec{Verb: 'd', Flags: 1, Width: 7, Prec: -1}, 0},
		{star, 7, 0, api.Spec{Verb: 'd', Width: 7, Prec: -1}, 0},
		{star, 0, 9, api.Spec{Verb: 'd', Prec: -1}, 0},
		{star, -1, 9, api.Spec{Verb: 'd', Flags: 1, Width: 1, Prec: -1}, 0},
		{star, 4096, maxInt, api.Spec{Verb: 'd', Width: 4096, Prec: -1}, 0},
		{star, -4096, 4097, api.Spec{Verb: 'd', Flags: 1, Width: 4096, Prec: -1}, 0},
		{star, 4097, 0, api.Spec{}, api.ErrWide}, {star, -4097, 0, api.Spec{}, api.ErrWide}, {star, maxInt, 0, api.Spec{}, api.ErrWide}, {star, minInt, 0, api.Spec{}, api.ErrWide}, {star, minInt + 1, 0, api.Spec{}, api.ErrWide},
		{prec, 9999, -1, api.Spec{Verb: 'e', Prec: -1}, 0}, {prec, minInt, 0, api.Spec{Verb: 'e'}, 0}, {prec, maxInt, 1, api.Spec{Verb: 'e', Prec: 1}, 0}, {prec, -5, 4096, api.Spec{Verb: 'e', Prec: 4096}, 0}, {prec, 0, -2, api.Spec{Verb: 'e', Prec: -1}, 0}, {prec, 0, -4097, api.Spec{Verb: 'e', Prec: -1}, 0}, {prec, 0, minInt, api.Spec{Verb: 'e', Prec: -1}, 0},
		{prec, 0, 4097, api.Spec{}, api.ErrWide}, {prec, 0, maxInt, api.Spec{}, api.ErrWide},
		{both, 3, 4, api.Spec{Verb: 'G', Flags: 10, Width: 3, Prec: 4}, 0}, {both, -3, -4, api.Spec{Verb: 'G', Flags: 11, Width: 3, Prec: -1}, 0}, {both, -4096, 4096, api.Spec{Verb: 'G', Flags: 11, Width: 4096, Prec: 4096}, 0}, {both, 4097, 0, api.Spec{}, api.ErrWide}, {both, 0, 4097, api.Spec{}, api.ErrWide}, {both, -4097, -1, api.Spec{}, api.ErrWide}, {both, 4097, 4097, api.Spec{}, api.ErrWide},
		{api.Piece{Verb: 's', Flags: 31, WidthKind: 2}, -5, 0, api.Spec{Verb: 's', Flags: 31, Width: 5, Prec: -1}, 0},
		{fixed, -9, 9999, api.Spec{Verb: 'e', Width: 5, Prec: 3}, 0}, {fixed, minInt, minInt, api.Spec{Verb: 'e', Width: 5, Prec: 3}, 0}, {fixed, maxInt, maxInt, api.Spec{Verb: 'e', Width: 5, Prec: 3}, 0},
		{none, -9, 9999, api.Spec{Verb: 'x', Flags: 16, Prec: -1}, 0}, {none, 4097, -7, api.Spec{Verb: 'x', Flags: 16, Prec: -1}, 0},
		{api.Piece{Verb: 'c', PrecKind: 1}, 0, 8, api.Spec{Verb: 'c'}, 0},
		{api.Piece{Verb: 'o', WidthKind: 1, Width: 6, PrecKind: 2}, 99, 8, api.Spec{Verb: 'o', Width: 6, Prec: 8}, 0},
		{api.Piece{Verb: 'u', WidthKind: 2, PrecKind: 1, Prec: 6}, 99, 8, api.Spec{Verb: 'u', Width: 99, Prec: 6}, 0},
		{api.Piece{Verb: '%'}, 0, 0, api.Spec{}, api.ErrPiece}, {api.Piece{Text: "a"}, 0, 0, api.Spec{}, api.ErrPiece}, {api.Piece{Verb: '%'}, 5000, 5000, api.Spec{}, api.ErrPiece}, {api.Piece{}, 0, 0, api.Spec{}, api.ErrPiece},
	} {
		if s, e := directive.Settle(c.p, c.width, c.prec); s != c.want || e != c.e {
			t.Errorf("Settle(%v, %d, %d) = %v, %d, want %v, %d", c.p, c.width, c.prec, s, e, c.want, c.e)
		}
	}
}

// P13.6: drawn directives: a Spec says what the directive would with the stars' numbers written out.
func TestSettleDrawn(t *testing.T) {
	seed := uint64(136)
	for range 30000 {
		p := drawPiece(&seed)
		width, prec := between(&seed, -4096, 4096), between(&seed, -3, 4096)
		want, e := api.Spec{Verb: p.Verb, Flags: p.Flags, Width: p.Width, Prec: p.Prec}, api.OK
		switch {
		case p.Verb == 0 || p.Verb == '%':
			want, e = api.Spec{}, api.ErrPiece
		default:
			if p.WidthKind == api.HasStar && width < 0 {
				want.Flags, want.Width = p.Flags|1, -width
			} else if p.WidthKind == api.HasStar {
				want.Width = width
			}
			if p.PrecKind == api.NoNumber || p.PrecKind == api.HasStar && prec < 0 {
				want.Prec = -1
			} else if p.PrecKind == api.HasStar {
				want.Prec = prec
			}
		}
		if s, f := directive.Settle(p, width, prec); s != want || f != e {
			t.Fatalf("Settle(%v, %d, %d) = %v, %d, want %v, %d", p, width, prec, s, f, want, e)
		}
	}
}

// P13.7: the document's examples of Single, and formats that have one directive too few, too many or of another kind.
func TestSingleExamples(t *testing.T) {
	for _, c := range []struct {
		format string
		ahead  string
		spec   api.Spec
		behind string
		ok     bool
	}{
		{"<%.6g>", "<", api.Spec{Verb: 'g', Prec: 6}, ">", true},
		{"%%%.2f%%", "%", api.Spec{Verb: 'f', Prec: 2}, "%", true},
		{"%%%-9.2f%%x", "%", api.Spec{Verb: 'f', Flags: 1, Width: 9, Prec: 2}, "%x", true},
		{"%E", "", api.Spec{Verb: 'E', Prec: -1}, "", true},
		{"a%%b%%%%c%+ #0-4096.4096Gd%%%%e%%f", "a%b%%c", api.Spec{Verb: 'G', Flags: 31, Width: 4096, Prec: 4096}, "d%%e%f", true},
		{"\x00%.F\xff", "\x00", api.Spec{Verb: 'F'}, "\xff", true},
		{"%%d%e", "%d", api.Spec{Verb: 'e', Prec: -1}, "", true},
		{format: "%d"}, {format: "%.6g%.6g"}, {format: "%*g"}, {format: "%.*g"}, {format: "%*.*g"}, {format: "abc"}, {format: "%"}, {format: ""}, {format: "%%"}, {format: "%g%"}, {format: "%g%q"}, {format: "%g%d"}, {format: "%d%g"}, {format: "%s%g"}, {format: "%g%4097g"}, {format: "%4097g"}, {format: "%.4097g"}, {format: "%5%%g"}, {format: "a%sb"}, {format: "%g%*d"},
	} {
		if a, s, b, ok := directive.Single(c.format); a != c.ahead || s != c.spec || b != c.behind || ok != c.ok {
			t.Errorf("Single(%q) = %q, %v, %q, %v", c.format, a, s, b, ok)
		}
	}
	for _, v := range []byte(verbs) {
		if _, s, _, ok := directive.Single("a%5" + string(v)); ok != strings.ContainsRune("eEfFgG", rune(v)) || ok && s != (api.Spec{Verb: v, Width: 5, Prec: -1}) {
			t.Errorf("%c: %v, %v", v, s, ok)
		}
	}
}

// P13.7: drawn formats, held against the pieces of the shapes.
func TestSingleDrawn(t *testing.T) {
	seed := uint64(137)
	took := 0
	for range 60000 {
		format := drawFormat(&seed)
		ahead, spec, behind, ok := single(format)
		if ok {
			took++
		}
		for range 2 {
			if a, s, b, is := directive.Single(format); a != ahead || s != spec || b != behind || is != ok {
				t.Fatalf("Single(%q) = %q, %v, %q, %v, want %q, %v, %q, %v", format, a, s, b, is, ahead, spec, behind, ok)
			}
		}
	}
	if took < 2000 {
		t.Errorf("only %d are single", took)
	}
}

// single: what Single must answer.
func single(format string) (string, api.Spec, string, bool) {
	if _, e := fault(format); e != api.OK {
		return "", api.Spec{}, "", false
	}
	sides, spec, n := [2]string{}, api.Spec{}, 0
	for _, p := range split(format) {
		switch p.Verb {
		case 0:
			sides[min(n, 1)] += p.Text
		case '%':
			sides[min(n, 1)] += "%"
		default:
			n++
			if strings.IndexByte("eEfFgG", p.Verb) < 0 || p.WidthKind == api.HasStar || p.PrecKind == api.HasStar {
				n++
			}
			spec = api.Spec{Verb: p.Verb, Flags: p.Flags, Width: p.Width, Prec: p.Prec}
			if p.PrecKind == api.NoNumber {
				spec.Prec = -1
			}
		}
	}
	if n != 1 {
		return "", api.Spec{}, "", false
	}
	return sides[0], spec, sides[1], true
}

// P13.7, P13.8: long formats are no exception.
func TestSingleLong(t *testing.T) {
	const many = 1 << 20
	ahead, behind := strings.Repeat("x%", many), strings.Repeat("y", api.MaxText+1)
	a, s, b, ok := directive.Single(strings.Repeat("x%%", many) + "%.3e" + behind)
	if a != ahead || s != (api.Spec{Verb: 'e', Prec: 3}) || b != behind || !ok {
		t.Errorf("%d bytes, %v, %d bytes, %v", len(a), s, len(b), ok)
	}
	if a, s, b, ok := directive.Single(strings.Repeat("%g", many)); a != "" || s != (api.Spec{}) || b != "" || ok {
		t.Errorf("many directives: %d bytes, %v, %d bytes, %v", len(a), s, len(b), ok)
	}
}
