package directive_test

import (
	"strings"
	"testing"

	"abacus/api"
	"abacus/directive"
)

// wrong: pieces that aren't in form.
func wrong() []api.Piece {
	list := []api.Piece{
		{}, {Text: "%"}, {Text: "a%"}, {Text: "%a"}, {Text: "%%"}, {Text: "%d"},
		{Text: "a", Flags: 1}, {Text: "a", WidthKind: 1}, {Text: "a", WidthKind: 2}, {Text: "a", Width: 1}, {Text: "a", PrecKind: 1}, {Text: "a", Prec: 1}, {Text: "a", Prec: -1}, {Flags: 1}, {WidthKind: 1, Width: 3},
		{Verb: '%', Text: "x"}, {Verb: '%', Text: "%"}, {Verb: '%', Flags: 1}, {Verb: '%', WidthKind: 1}, {Verb: '%', WidthKind: 1, Width: 5}, {Verb: '%', WidthKind: 2}, {Verb: '%', Width: 1}, {Verb: '%', PrecKind: 1}, {Verb: '%', PrecKind: 2}, {Verb: '%', Prec: 1}, {Verb: '%', Prec: -1},
		{Verb: 'd', Text: "x"}, {Verb: 'd', Text: "d"}, {Verb: 'q', Text: "q"},
		{Verb: 'd', Flags: 32}, {Verb: 'd', Flags: -1}, {Verb: 'd', Flags: 33}, {Verb: 'd', Flags: maxInt}, {Verb: 'd', Flags: minInt},
	}
	for c := range 256 {
		if b := byte(c); b != 0 && b != '%' && strings.IndexByte(verbs, b) < 0 {
			list = append(list, api.Piece{Verb: b})
		}
	}
	for _, n := range []int{-1, 1, 4096, 4097, maxInt, minInt} {
		for _, kind := range []int{api.NoNumber, api.HasStar, 3, -1, maxInt, minInt} {
			list = append(list, api.Piece{Verb: 'e', WidthKind: kind, Width: n}, api.Piece{Verb: 'e', PrecKind: kind, Prec: n})
		}
		if n < 1 || n > 4096 {
			list = append(list, api.Piece{Verb: 's', WidthKind: 1, Width: n}, api.Piece{Verb: 's', PrecKind: 1, Prec: n})
		}
	}
	return append(list, api.Piece{Verb: 's', WidthKind: 1}, api.Piece{Verb: 's', WidthKind: 3}, api.Piece{Verb: 's', PrecKind: -1}, api.Piece{Verb: 's', PrecKind: 3})
}

// P13.2, P13.3, P13.6: a piece that isn't in form is refused by Check, Print and Settle, wherever it stands.
func TestWrongPieces(t *testing.T) {
	long := strings.Repeat("a", api.MaxText)
	for i, p := range wrong() {
		if e := directive.Check(p); e != api.ErrPiece {
			t.Errorf("Check(%v) = %d", p, e)
		}
		if s, e := directive.Settle(p, 1, 1); s != (api.Spec{}) || e != api.ErrPiece {
			t.Errorf("Settle(%v) = %v, %d", p, s, e)
		}
		if s, e := directive.Settle(p, 5000, 5000); s != (api.Spec{}) || e != api.ErrPiece {
			t.Errorf("Settle(%v, 5000, 5000) = %v, %d", p, s, e)
		}
		lists := [][]api.Piece{{p}, {p, {Text: "a"}}, {{Verb: 'd'}, p}, {{Text: "a"}, {Verb: '%'}, p, {Verb: 'x'}}}
		if i < 5 {
			lists = append(lists, []api.Piece{{Text: long}, {Text: long}, p})
		}
		for _, list := range lists {
			if s, e := directive.Print(list); s != "" || e != api.ErrPiece {
				t.Errorf("Print(.. %v ..) = %q, %d", p, s, e)
			}
		}
	}
}

// P13.2: pieces in form, at the ends of each field.
func TestRightPieces(t *testing.T) {
	list := []api.Piece{{Text: "a"}, {Text: "\x00"}, {Text: "\xff"}, {Text: " "}, {Text: "d"}, {Text: strings.Repeat("x", api.MaxText+1)}, {Verb: '%'}}
	for _, v := range []byte(verbs) {
		list = append(list, api.Piece{Verb: v}, api.Piece{Verb: v, Flags: 31}, api.Piece{Verb: v, WidthKind: 1, Width: 1}, api.Piece{Verb: v, WidthKind: 1, Width: 4096}, api.Piece{Verb: v, WidthKind: 2}, api.Piece{Verb: v, PrecKind: 1}, api.Piece{Verb: v, PrecKind: 1, Prec: 4096}, api.Piece{Verb: v, PrecKind: 2}, api.Piece{Verb: v, Flags: 16, WidthKind: 2, PrecKind: 1, Prec: 3})
	}
	for _, p := range list {
		if e := directive.Check(p); e != api.OK {
			t.Errorf("Check(%.40v) = %d", p, e)
		}
	}
}

// P13.3: the document's examples of Print, and each part's spelling.
func TestPrintExamples(t *testing.T) {
	for _, c := range []struct {
		list []api.Piece
		want string
	}{
		{[]api.Piece{{Text: "a"}, {Verb: 'f', Flags: 17, WidthKind: 1, Width: 5, PrecKind: 1, Prec: 2}, {Text: "b"}}, "a%-05.2fb"},
		{[]api.Piece{{Verb: 'd', Flags: 22, WidthKind: 1, Width: 8, PrecKind: 1}}, "%+ 08.0d"},
		{[]api.Piece{{Text: "100"}, {Verb: '%'}, {Text: "\n"}}, "100%%\n"},
		{nil, ""}, {[]api.Piece{}, ""},
		{[]api.Piece{{Verb: 's', WidthKind: 2, PrecKind: 2}}, "%*.*s"},
		{[]api.Piece{{Verb: 'x', Flags: 31}}, "%-+ #0x"},
		{[]api.Piece{{Verb: 'G', Flags: api.Hash}, {Verb: 'c'}}, "%#G%c"},
		{[]api.Piece{{Verb: 'u', WidthKind: 1, Width: 4096, PrecKind: 1, Prec: 4096}}, "%4096.4096u"},
		{[]api.Piece{{Verb: 'i', WidthKind: 1, Width: 10, PrecKind: 2}}, "%10.*i"},
		{[]api.Piece{{Text: "a"}, {Text: "b"}, {Text: "\x00\xff"}}, "ab\x00\xff"},
		{[]api.Piece{{Verb: '%'}, {Verb: '%'}}, "%%%%"},
	} {
		if s, e := directive.Print(c.list); s != c.want || e != api.OK {
			t.Errorf("Print(%v) = %q, %d, want %q", c.list, s, e, c.want)
		}
	}
}

// P13.3: a text of MaxText bytes is made, one of a byte more is not.
func TestPrintLong(t *testing.T) {
	text := func(n int) api.Piece { return api.Piece{Text: strings.Repeat("a", n)} }
	percent, number := api.Piece{Verb: '%'}, api.Piece{Verb: 'd', Flags: 1, WidthKind: 1, Width: 12}
	half := text(api.MaxText / 2)
	for _, c := range []struct {
		list []api.Piece
		e    api.Errno
	}{
		{[]api.Piece{text(api.MaxText)}, api.OK}, {[]api.Piece{text(api.MaxText + 1)}, api.ErrLong},
		{[]api.Piece{text(api.MaxText - 2), percent}, api.OK}, {[]api.Piece{text(api.MaxText - 1), percent}, api.ErrLong},
		{[]api.Piece{percent, text(api.MaxText - 2)}, api.OK}, {[]api.Piece{percent, text(api.MaxText - 1)}, api.ErrLong},
		{[]api.Piece{number, text(api.MaxText - 5)}, api.OK}, {[]api.Piece{text(api.MaxText - 4), number}, api.ErrLong},
		{[]api.Piece{half, half}, api.OK}, {[]api.Piece{half, half, text(1)}, api.ErrLong}, {[]api.Piece{half, text(1), half, percent, half}, api.ErrLong},
	} {
		s, e := directive.Print(c.list)
		if e != c.e || e == api.OK && len(s) != api.MaxText || e != api.OK && s != "" {
			t.Errorf("%d pieces: %d bytes, %d, want %d", len(c.list), len(s), e, c.e)
		}
	}
}

// P13.4: Print of what Parse answers has the same pieces, and Parse of what Print answers is the list again.
func TestThereAndBack(t *testing.T) {
	seed := uint64(134)
	for range 30000 {
		format := drawFormat(&seed)
		if list, _, e := directive.Parse(format); e == api.OK {
			backAgain(t, list)
		}
		backAgain(t, drawPieces(&seed))
	}
	for flags := range 32 {
		for kinds := range 9 {
			p := api.Piece{Verb: verbs[(flags+kinds)%len(verbs)], Flags: flags, WidthKind: kinds % 3, PrecKind: kinds / 3}
			if p.WidthKind == api.HasNumber {
				p.Width = 1 + 13*flags
			}
			if p.PrecKind == api.HasNumber {
				p.Prec = 17 * flags
			}
			backAgain(t, []api.Piece{p})
		}
	}
	for n := range 4096 {
		backAgain(t, []api.Piece{{Verb: 'g', WidthKind: 1, Width: n + 1, PrecKind: 1, Prec: 4096 - n}, {Verb: 'd', PrecKind: 1, Prec: n}})
	}
}

// backAgain: Parse of Print of this list is the list.
func backAgain(t *testing.T, list []api.Piece) {
	t.Helper()
	s, e := directive.Print(list)
	if e != api.OK {
		t.Fatalf("Print(%v): %d", list, e)
	}
	if again, at, e := directive.Parse(s); !same(again, list) || at != 0 || e != api.OK {
		t.Fatalf("Parse(%q) = %v, %d, %d, want %v", s, again, at, e, list)
	}
}

// P13.5: how many arguments a list takes, in form or not.
func TestWants(t *testing.T) {
	for _, c := range []struct {
		list []api.Piece
		want int
	}{
		{nil, 0}, {[]api.Piece{{}}, 0}, {[]api.Piece{{Text: "a"}, {Verb: '%'}}, 0},
		{[]api.Piece{{Verb: 's', WidthKind: 2, PrecKind: 2}}, 3},
		{[]api.Piece{{Verb: 'd'}, {Verb: 'd', WidthKind: 1, Width: 4, PrecKind: 1}, {Verb: 'e', WidthKind: 2}, {Verb: 'e', PrecKind: 2}}, 6},
		{[]api.Piece{{WidthKind: 2, PrecKind: 2}, {Verb: '%', WidthKind: 2, PrecKind: 2}}, 0},
		{[]api.Piece{{Verb: 'q'}, {Verb: 1, Text: "a", Flags: -1}, {Verb: 0xff, WidthKind: 3, PrecKind: -2}, {Verb: 'd', WidthKind: 2, Width: 7, PrecKind: 2, Prec: -9}}, 6},
	} {
		if n := directive.Wants(c.list); n != c.want {
			t.Errorf("Wants(%v) = %d, want %d", c.list, n, c.want)
		}
	}
	const many = 1 << 18
	list := make([]api.Piece, 0, 4*many)
	for range many {
		list = append(list, api.Piece{Verb: 'd', WidthKind: 2}, api.Piece{Verb: '%', PrecKind: 2}, api.Piece{Verb: 's'}, api.Piece{Text: "a"})
	}
	if n := directive.Wants(list); n != 3*many {
		t.Errorf("Wants of %d pieces = %d", len(list), n)
	}
}

// P13.8: a list that is handed in stays as it is, its spare room too, and the same call answers the same.
func TestPrintMemory(t *testing.T) {
	seed := uint64(138)
	for range 2000 {
		list := drawPieces(&seed)
		room := append(list, api.Piece{Text: "spare"}, api.Piece{Verb: 'q'})
		before := append([]api.Piece(nil), room...)
		first, e := directive.Print(room[:len(list)])
		wants := directive.Wants(room[:len(list)])
		if again, f := directive.Print(room[:len(list)]); again != first || f != e || directive.Wants(room[:len(list)]) != wants {
			t.Fatalf("Print(%v): %q, %d, then %q, %d", list, first, e, again, f)
		}
		if !same(room, before) {
			t.Fatalf("%v is now %v", before, room)
		}
	}
}
