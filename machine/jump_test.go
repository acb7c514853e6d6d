package machine_test

import (
	"testing"

	"abacus/api"
	"abacus/store"
)

// P27.1, P27.3: ifnot jumps by what is false and if by what is true; what isn't reached is neither carried out nor counted.
func TestConditions(t *testing.T) {
	for v, truth := range map[api.Value]bool{
		none: false, num(0): false, minus0: false, num(1): true, num(-0.5): true, pattern(api.NaN): true, pattern(1): true, pattern(api.Inf): true,
		str(""): false, str("0"): true, str(" "): true, str("x"): true, strnum(0, "1"): false, strnum(1, "0"): true, strnum(0, "0.0"): false,
	} {
		for _, l := range []struct {
			text    string
			no, yes told // if v is false, if it is true
		}{
			{"var x; truth", told{num(0), 2, api.OK}, told{num(1), 2, api.OK}},
			{"var x; not", told{num(1), 2, api.OK}, told{num(0), 2, api.OK}},
			{`var x; ifnot 4; str "yes"; jump 5; str "no"`, told{str("no"), 3, api.OK}, told{str("yes"), 4, api.OK}},
			{`var x; if 4; str "no"; jump 5; str "yes"`, told{str("no"), 4, api.OK}, told{str("yes"), 3, api.OK}},
			{"num 5; var x; if 3; neg", told{num(-5), 4, api.OK}, told{num(-5), 4, api.OK}},
			{"num 5; var x; ifnot 3; neg", told{num(-5), 4, api.OK}, told{num(-5), 4, api.OK}},
			{"num 5; var x; if 4; neg", told{num(-5), 4, api.OK}, told{num(5), 3, api.OK}},
			{"num 5; var x; ifnot 4; neg", told{num(5), 3, api.OK}, told{num(-5), 4, api.OK}},
			{"num 1; num 2; num 3; var x; ifnot 6; neg; bin -; bin -", told{num(2), 7, api.OK}, told{num(-4), 8, api.OK}},
			{"num 7; var x; ifnot 6; num 0; bin /; jump 6", told{num(7), 3, api.OK}, told{none, 0, api.ErrDivide}},
			{"num 7; var x; if 6; num 0; bin /; jump 6", told{none, 0, api.ErrDivide}, told{num(7), 3, api.OK}},
		} {
			want := l.no
			if truth {
				want = l.yes
			}
			hold(t, l.text, read(t, l.text), made(set(x, v)), want, made(set(x, v)))
		}
	}
}

// P27.1, P27.3: each instruction that is reached is carried out once, in the order in which the jumps lead.
func TestWays(t *testing.T) {
	for _, l := range []struct {
		text  string
		want  told
		after change
	}{
		{"num 5; jump 3; pop", told{num(5), 2, api.OK}, nil},
		{"num 5; jump 6; stepvar x v++; num 0; bin /; pop", told{num(5), 2, api.OK}, nil},
		{"jump 1; jump 2; jump 3; num 5", told{num(5), 4, api.OK}, nil},
		{"stepvar x v++; pop; jump 5; stepvar y v++; pop; stepvar x v++", told{num(1), 4, api.OK}, set(x, num(2))},
		{"num 0; if 6; num 0; if 6; num 3; jump 7; num 7", told{num(3), 6, api.OK}, nil},
		{"num 0; if 6; num 1; if 6; num 3; jump 7; num 7", told{num(7), 5, api.OK}, nil},
		{"num 1; if 6; num 1; if 6; num 3; jump 7; num 7", told{num(7), 3, api.OK}, nil},
		{"num 1; num 0; ifnot 5; stepvar x ++v; pop; neg", told{num(-1), 4, api.OK}, nil},
		{"num 1; num 2; ifnot 5; stepvar x ++v; pop; neg", told{num(-1), 6, api.OK}, set(x, num(1))},
		{"num 1; num 2; num 3; pop; pop", told{num(1), 5, api.OK}, nil},
	} {
		hold(t, l.text, read(t, l.text), begun(), l.want, made(l.after))
	}
}

// P27.1: an instruction takes what is on top of the stack, and leaves what is below it.
func TestStack(t *testing.T) {
	holdLines(t, []line{
		{"num 1; num 2; num 3; cat; cat", nil, str("123"), api.OK, nil},
		{"num 1; num 2; num 3; num 4; bin -; bin -; bin -", nil, num(-2), api.OK, nil},
		{"num 2; num 3; call sum 2; num 4; num 5; call sum 2; bin *", nil, num(45), api.OK, nil},
		{"num 9; num 2; num 3; call sum 2; bin -", nil, num(4), api.OK, nil},
		{`num 9; str "p"; num 3; key 2; cat`, nil, str("9p\x1c3"), api.OK, nil},
		{`num 9; str "p"; num 3; key 1; cat; cat`, nil, str("9p3"), api.OK, nil},
		{`num 9; str "%s-%s"; num 1; num 2; call sprintf 3; cat`, nil, str("91-2"), api.OK, nil},
		{`num 9; str "hello"; num 2; num 3; call substr 3; cat`, nil, str("9ell"), api.OK, nil},
		{`num 9; str "hello"; num 3; call substr 2; cat`, nil, str("9llo"), api.OK, nil},
		{`num 9; str "b"; str "xx"; subvar x gsub; cat`, set(x, str("abba")), str("92"), api.OK, set(x, str("axxxxa"))},
		{`num 9; str "b"; str "xx"; num 2; subfield sub; cat`, nil, str("91"), api.OK, field(2, str("axxc"))},
		{`num 9; str "b"; str "xx"; num 2; subelem a sub; cat`, nil, str("90"), api.OK, elem(0, "2", none)},
		{`num 9; num 2; str "v"; setfield; cat`, nil, str("9v"), api.OK, field(2, str("v"))},
		{`num 9; num 2; str "v"; setelem b; cat`, nil, str("9v"), api.OK, elem(1, "2", str("v"))},
		{`num 9; str "v"; setvar x; cat`, nil, str("9v"), api.OK, set(x, str("v"))},
		{"num 9; num 2; num 3; opfield -; cat", field(2, num(8)), str("95"), api.OK, field(2, num(5))},
		{"num 9; num 2; num 3; opelem a -; cat", elem(0, "2", num(8)), str("95"), api.OK, elem(0, "2", num(5))},
		{"num 9; num 3; opvar x -; cat", set(x, num(8)), str("95"), api.OK, set(x, num(5))},
		{"num 9; num 2; stepfield v--; cat", field(2, num(8)), str("98"), api.OK, field(2, num(7))},
		{"num 9; num 2; stepelem a v--; cat", elem(0, "2", num(8)), str("98"), api.OK, elem(0, "2", num(7))},
		{"num 9; stepvar x v--; cat", set(x, num(8)), str("98"), api.OK, set(x, num(7))},
		{"num 9; num 1; field; cat", nil, str("910"), api.OK, nil},
		{"num 9; num 1; elem a; cat", elem(0, "1", str("e")), str("9e"), api.OK, nil},
		{"num 9; num 1; in a; cat", elem(0, "1", str("e")), str("91"), api.OK, nil},
		{`num 9; str "p q"; str " "; split a; cat`, nil, str("92"), api.OK, all(elem(0, "1", str("p")), elem(0, "2", str("q")))},
		{"num 9; asort a; cat", elem(0, "k", str("p")), str("91"), api.OK, func(s *store.Store) { s.Wipe(0); s.SetElem(0, "1", str("p")) }},
		{"num 9; num 4; num 5; rel <; cat", nil, str("91"), api.OK, nil},
		{"num 9; num 4; num 5; rel >; cat", nil, str("90"), api.OK, nil},
		{"num 9; num 4; neg; cat", nil, str("9-4"), api.OK, nil},
	})
}
