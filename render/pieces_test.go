package render_test

import (
	"math"
	"strings"
	"testing"

	"abacus/api"
	"abacus/directive"
	"abacus/render"
)

// parsed: the pieces of a format that is right.
func parsed(t *testing.T, format string) []api.Piece {
	t.Helper()
	pieces, _, e := directive.Parse(format)
	if e != api.OK {
		t.Fatalf("the format %q has error %d", format, e)
	}
	return pieces
}

// P16.2: texts and percents as they are, texts side by side too; each directive takes its arguments where the one before it left off, stars first.
func TestPieces(t *testing.T) {
	text, percent := api.Piece{Text: "a\x00b"}, api.Piece{Verb: '%'}
	star := api.Piece{Verb: 'd', WidthKind: api.HasStar}
	stars := api.Piece{Verb: 'f', Flags: api.Plus, WidthKind: api.HasStar, PrecKind: api.HasStar}
	holdPieces(t, nil, nil, "", api.OK)
	holdPieces(t, []api.Piece{}, []api.Arg{num(1)}, "", api.OK)
	holdPieces(t, []api.Piece{text, text, percent, percent, text}, nil, "a\x00ba\x00b%%a\x00b", api.OK)
	holdPieces(t, []api.Piece{star, percent, star}, []api.Arg{num(3), num(7), num(-3), num(8)}, "  7%8  ", api.OK)
	holdPieces(t, []api.Piece{stars, {Verb: 's'}, stars}, []api.Arg{num(8), num(2), num(1.5), str("|"), num(-8), num(-1), num(2.25), str("left over")}, "   +1.50|+2.250000", api.OK)
	holdPieces(t, []api.Piece{{Verb: 's', PrecKind: api.HasStar}, star}, []api.Arg{num(1), str("xyz"), num(4), num(5)}, "x   5", api.OK)
}

// P16.2: a star's number is cut towards nothing; a width below nothing is Minus and its size, a precision below nothing is none, however far.
func TestStars(t *testing.T) {
	for _, c := range []struct {
		format string
		star   float64
		text   string
	}{
		{"[%*d]", 5, "[   42]"}, {"[%*d]", 5.99, "[   42]"}, {"[%*d]", -5.99, "[42   ]"}, {"[%0*d]", 5, "[00042]"}, {"[%0*d]", -5, "[42   ]"}, {"[%-*d]", -5, "[42   ]"},
		{"[%*d]", 0, "[42]"}, {"[%*d]", 0.99, "[42]"}, {"[%*d]", -0.99, "[42]"}, {"[%*d]", math.Copysign(0, -1), "[42]"}, {"[%*d]", 5e-324, "[42]"},
		{"[%*d]", 4096.99, "[" + strings.Repeat(" ", 4094) + "42]"}, {"[%*d]", -4096.99, "[42" + strings.Repeat(" ", 4094) + "]"},
		{"[%.*d]", 5, "[00042]"}, {"[%.*d]", 5.99, "[00042]"}, {"[%.*d]", 4096.99, "[" + strings.Repeat("0", 4094) + "42]"},
		{"[%.*f]", 0, "[42]"}, {"[%.*f]", -0.99, "[42]"}, {"[%.*f]", math.Copysign(0, -1), "[42]"}, {"[%.*f]", -1, "[42.000000]"}, {"[%.*f]", -1.5, "[42.000000]"}, {"[%.*f]", 2, "[42.00]"},
		{"[%.*f]", -4096, "[42.000000]"}, {"[%.*f]", -5000, "[42.000000]"}, {"[%.*f]", -1 << 63, "[42.000000]"}, {"[%.*f]", -1e300, "[42.000000]"}, {"[%.*f]", -math.MaxFloat64, "[42.000000]"},
	} {
		holdPieces(t, parsed(t, c.format), []api.Arg{num(c.star), num(42)}, c.text, api.OK)
	}
	for _, x := range []float64{4097, -4097, 5000, -5000, 1 << 31, 1 << 32, -1 << 32, 1<<32 + 5, 1 << 63, -1 << 63, -1 << 62, 1 << 64, 1<<64 + 4096, 1e300, -1e300, math.Inf(1), math.Inf(-1), math.NaN()} {
		holdPieces(t, parsed(t, "%*d"), []api.Arg{num(x), num(42)}, "", api.ErrWide)
		if x > 0 || math.IsInf(x, 0) || x != x {
			holdPieces(t, parsed(t, "%.*d"), []api.Arg{num(x), num(42)}, "", api.ErrWide)
		}
	}
	holdPieces(t, parsed(t, "%*d"), []api.Arg{pattern(api.NaN | minus | 1), num(42)}, "", api.ErrWide)
}

// P16.2: the errors' order within a directive, each beside those that come behind it.
func TestErrorOrder(t *testing.T) {
	nan := pattern(api.NaN)
	for _, c := range []struct {
		format string
		args   []api.Arg
		e      api.Errno
	}{
		{"%d", nil, api.ErrFew}, {"%*d", []api.Arg{str("x")}, api.ErrFew}, {"%*d", []api.Arg{nan}, api.ErrFew}, {"%.*d", []api.Arg{num(5000)}, api.ErrFew},
		{"%*.*d", []api.Arg{str("x"), nan}, api.ErrFew}, {"%*.*d", []api.Arg{num(1), num(1)}, api.ErrFew}, {"%d%d", []api.Arg{num(1)}, api.ErrFew}, {"%s %s", []api.Arg{str("a")}, api.ErrFew},
		{"%*d", []api.Arg{str("5"), num(1)}, api.ErrKind}, {"%.*d", []api.Arg{str("5"), num(1)}, api.ErrKind}, {"%*.*d", []api.Arg{num(5), str("5"), num(1)}, api.ErrKind},
		{"%*.*d", []api.Arg{nan, str("5"), num(1)}, api.ErrKind}, {"%*.*d", []api.Arg{num(5000), str("5"), str("x")}, api.ErrKind}, {"%*.*d", []api.Arg{str("5"), nan, num(1)}, api.ErrKind},
		{"%*.*d", []api.Arg{nan, num(1), str("x")}, api.ErrWide}, {"%*.*d", []api.Arg{num(1), nan, str("x")}, api.ErrWide}, {"%*c", []api.Arg{num(-4097), nan}, api.ErrWide}, {"%.*c", []api.Arg{num(4097), nan}, api.ErrWide},
		{"%*s", []api.Arg{num(1), num(1)}, api.ErrKind}, {"%d", []api.Arg{str("5")}, api.ErrKind}, {"%s", []api.Arg{num(5)}, api.ErrKind}, {"%c", []api.Arg{nan}, api.ErrFinite},
		{"%s%d", []api.Arg{num(5)}, api.ErrKind}, {"%d%s%c", []api.Arg{num(5), nan, nan}, api.ErrKind}, {"%c%d", []api.Arg{nan}, api.ErrFinite}, {"%*d%d", []api.Arg{nan, num(1)}, api.ErrWide},
	} {
		holdPieces(t, parsed(t, c.format), c.args, "", c.e)
		holdSprintf(t, c.format, c.args, "", c.e)
	}
}

// P16.2: a piece that isn't in form, wherever it stands, is told ahead of all other faults.
func TestWrongPieces(t *testing.T) {
	long := api.Piece{Text: strings.Repeat("x", api.MaxText+1)}
	for _, p := range []api.Piece{
		{}, {Text: "%"}, {Text: "a", Verb: 'd'}, {Text: "a", Flags: 1}, {Verb: 'q'}, {Verb: '%', Flags: 1}, {Verb: '%', Text: "%"},
		{Verb: 'd', Flags: 32}, {Verb: 'd', Flags: -1}, {Verb: 'd', Width: 5}, {Verb: 'd', WidthKind: api.HasNumber}, {Verb: 'd', WidthKind: api.HasNumber, Width: 4097},
		{Verb: 'd', WidthKind: api.HasStar, Width: 1}, {Verb: 'd', WidthKind: 3}, {Verb: 'd', PrecKind: api.HasNumber, Prec: -1}, {Verb: 'd', PrecKind: -1}, {Verb: 'd', PrecKind: api.HasStar, Prec: minInt},
	} {
		holdPieces(t, []api.Piece{p}, []api.Arg{num(1), num(1), num(1)}, "", api.ErrPiece)
		holdPieces(t, []api.Piece{{Text: "a"}, {Verb: 'd'}, p}, nil, "", api.ErrPiece)
		holdPieces(t, []api.Piece{p, {Verb: 'd'}}, []api.Arg{str("x")}, "", api.ErrPiece)
		holdPieces(t, []api.Piece{{Verb: 'c'}, p}, []api.Arg{pattern(api.NaN)}, "", api.ErrPiece)
		holdPieces(t, []api.Piece{long, p}, nil, "", api.ErrPiece)
	}
}

// P16.2: MaxText bytes in all may be made, and not one more; the pieces' faults come from the left, and a directive's own ahead of the length.
func TestPiecesLong(t *testing.T) {
	half := api.Piece{Text: strings.Repeat("x", api.MaxText/2)}
	full := strings.Repeat("x", api.MaxText)
	one, percent := api.Piece{Text: "y"}, api.Piece{Verb: '%'}
	d, s, c := api.Piece{Verb: 'd'}, api.Piece{Verb: 's'}, api.Piece{Verb: 'c'}
	empty := api.Piece{Verb: 's', PrecKind: api.HasNumber}
	holdPieces(t, []api.Piece{half, half}, nil, full, api.OK)
	holdPieces(t, []api.Piece{half, half, empty, s, c}, []api.Arg{str("gone"), str(""), str("")}, full, api.OK)
	holdPieces(t, []api.Piece{half, s}, []api.Arg{str(half.Text)}, full, api.OK)
	holdPieces(t, []api.Piece{s, half}, []api.Arg{str(half.Text)}, full, api.OK)
	holdPieces(t, []api.Piece{{Text: full}}, nil, full, api.OK)
	holdPieces(t, []api.Piece{{Text: full + "y"}}, nil, "", api.ErrLong)
	for _, p := range []api.Piece{one, percent, half} {
		holdPieces(t, []api.Piece{half, half, p}, nil, "", api.ErrLong)
		holdPieces(t, []api.Piece{half, half, p, d}, nil, "", api.ErrLong)
		holdPieces(t, []api.Piece{half, d, half, p}, nil, "", api.ErrFew)
		holdPieces(t, []api.Piece{p, half, half}, nil, "", api.ErrLong)
	}
	holdPieces(t, []api.Piece{half, half, d}, []api.Arg{num(1)}, "", api.ErrLong)
	holdPieces(t, []api.Piece{half, half, d}, nil, "", api.ErrFew)
	holdPieces(t, []api.Piece{half, half, d}, []api.Arg{str("1")}, "", api.ErrKind)
	holdPieces(t, []api.Piece{half, half, c}, []api.Arg{pattern(api.Inf)}, "", api.ErrFinite)
	holdPieces(t, []api.Piece{half, half, {Verb: 'd', WidthKind: api.HasStar}}, []api.Arg{num(4097), num(1)}, "", api.ErrWide)
	holdPieces(t, []api.Piece{half, half, c, d}, []api.Arg{num(0)}, "", api.ErrLong)
	holdPieces(t, []api.Piece{s, d}, []api.Arg{str(full + "y")}, "", api.ErrLong)
	holdPieces(t, []api.Piece{half, {Verb: 's', WidthKind: api.HasNumber, Width: 4096}, half}, []api.Arg{str("")}, "", api.ErrLong)
}

// stars: the Spec that the numbers of a directive's stars make of it, told by floats; ErrKind, ErrWide.
func stars(p api.Piece, args []api.Arg) (api.Spec, api.Errno) {
	s := api.Spec{Verb: p.Verb, Flags: p.Flags, Width: p.Width, Prec: p.Prec}
	if p.PrecKind == api.NoNumber {
		s.Prec = -1
	}
	for _, a := range args {
		if a.Text {
			return s, api.ErrKind
		}
	}
	if p.WidthKind == api.HasStar {
		x := math.Trunc(math.Float64frombits(args[0].Num))
		if !(math.Abs(x) <= 4096) {
			return s, api.ErrWide
		}
		if x < 0 {
			s.Flags |= api.Minus
		}
		s.Width = int(math.Abs(x))
	}
	if p.PrecKind == api.HasStar {
		x := math.Trunc(math.Float64frombits(args[len(args)-1].Num))
		if !(x <= 4096) || math.IsInf(x, 0) {
			return s, api.ErrWide
		}
		s.Prec = int(math.Max(x, -1))
	}
	return s, api.OK
}

// count: how many arguments a piece takes.
func count(p api.Piece) int {
	if p.Verb == 0 || p.Verb == '%' {
		return 0
	}
	n := 1
	for _, kind := range []int{p.WidthKind, p.PrecKind} {
		if kind == api.HasStar {
			n++
		}
	}
	return n
}

// joined: what Pieces must answer.
func joined(pieces []api.Piece, args []api.Arg) (string, api.Errno) {
	for _, p := range pieces {
		if directive.Check(p) != api.OK {
			return "", api.ErrPiece
		}
	}
	out, used := "", 0
	for _, p := range pieces {
		n := count(p)
		switch {
		case p.Verb == '%':
			out += "%"
		case n == 0:
			out += p.Text
		case len(args)-used < n:
			return "", api.ErrFew
		default:
			s, e := stars(p, args[used:used+n-1])
			if e != api.OK {
				return "", e
			}
			text, e := render.One(s, args[used+n-1])
			if e != api.OK {
				return "", e
			}
			out += text
			used += n
		}
	}
	return out, api.OK
}

// drawPiece: a piece, most often in form.
func drawPiece(seed *uint64) api.Piece {
	switch between(seed, 0, 7) {
	case 0:
		return api.Piece{Text: pick(seed, "a", " b ", "\x00", "\xff\n")}
	case 1:
		return api.Piece{Verb: '%'}
	}
	p := api.Piece{Verb: pick(seed, []byte(verbs)...), Flags: between(seed, 0, 31), WidthKind: between(seed, 0, 2), PrecKind: between(seed, 0, 2)}
	if p.WidthKind == api.HasNumber {
		p.Width = between(seed, 1, 20)
	}
	if p.PrecKind == api.HasNumber {
		p.Prec = between(seed, 0, 20)
	}
	if random(seed)%200 == 0 {
		p.Width++
	}
	return p
}

// drawArg: an argument that most often suits where it is taken: a star's place if verb is '*'.
func drawArg(seed *uint64, verb byte) api.Arg {
	text := verb == 's' || verb == 'c' && random(seed)%2 == 0
	if random(seed)%30 == 0 {
		text = !text
	}
	switch {
	case text:
		return str(pick(seed, "", "x", "text", "a longer text\x00", "7"))
	case verb != '*' || random(seed)%30 == 0:
		return pattern(drawDouble(seed))
	}
	return num(float64(between(seed, -800, 800)) / 32)
}

// drawArgs: arguments for these pieces, now and then too few or too many.
func drawArgs(seed *uint64, pieces []api.Piece) []api.Arg {
	var args []api.Arg
	for _, p := range pieces {
		n := count(p)
		for i := range n {
			verb := p.Verb
			if i < n-1 {
				verb = '*'
			}
			args = append(args, drawArg(seed, verb))
		}
	}
	switch between(seed, 0, 9) {
	case 0:
		return args[:between(seed, 0, len(args))]
	case 1:
		return append(args, str("left over"), pattern(api.NaN))
	}
	return args
}

// P16.2: drawn pieces and arguments, held against answers that are put together another way.
func TestPiecesDrawn(t *testing.T) {
	seed := uint64(162)
	met := map[api.Errno]int{}
	for range 60000 {
		pieces := make([]api.Piece, between(&seed, 0, 6))
		for i := range pieces {
			pieces[i] = drawPiece(&seed)
		}
		args := drawArgs(&seed, pieces)
		text, e := joined(pieces, args)
		met[e]++
		holdPieces(t, pieces, args, text, e)
	}
	for _, e := range []api.Errno{api.OK, api.ErrPiece, api.ErrFew, api.ErrKind, api.ErrWide, api.ErrFinite} {
		if met[e] < 10 {
			t.Errorf("error %d was met %d times only", e, met[e])
		}
	}
}
