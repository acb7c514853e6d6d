package walk_test

import (
	"strconv"
	"testing"

	"abacus/api"
	"abacus/store"
)

// P25.1, P25.2: the chapter's examples.
func TestExamples(t *testing.T) {
	holdLines(t, []line{
		{"1 + 2 * 3", nil, num(7), api.OK, nil},
		{"2 ^ 3 ^ 2", nil, num(512), api.OK, nil},
		{"-2 ^ 2", nil, num(-4), api.OK, nil},
		{"7 % -3", nil, num(1), api.OK, nil},
		{"1 / 0", nil, none, api.ErrDivide, nil},
		{"0 % 0", nil, none, api.ErrDivide, nil},
		{"2 ^ 0.5", nil, none, api.ErrPower, nil},
		{"x", nil, none, api.OK, nil},
		{"x + 1", nil, num(1), api.OK, nil},
		{`x ""`, nil, str(""), api.OK, nil},
		{"!x", nil, num(1), api.OK, nil},
		{"-x", nil, minus0, api.OK, nil},
		{`1 " " 2`, nil, str("1 2"), api.OK, nil},
		{`(0.1 + 0.2) ""`, nil, str("0.3"), api.OK, nil},
		{"$1", nil, strnum(10, "10"), api.OK, nil},
		{`$1 == "10"`, nil, num(1), api.OK, nil},
		{"$1 == 10.0", nil, num(1), api.OK, nil},
		{"$2 > 5", nil, num(1), api.OK, nil},
		{"$(-0.5)", nil, str("10 abc"), api.OK, nil},
		{"$1e9", nil, none, api.ErrField, nil},
		{"$3", nil, none, api.OK, nil},
		{"(x = 3) + x", nil, num(6), api.OK, set(x, num(3))},
		{"x + (x = 3)", nil, num(3), api.OK, set(x, num(3))},
		{"x (x = 2)", set(x, num(1)), str("12"), api.OK, set(x, num(2))},
		{"x = y = 2", nil, num(2), api.OK, all(set(x, num(2)), set(y, num(2)))},
		{"x += x++", set(x, num(5)), num(11), api.OK, set(x, num(11))},
		{"x++ + ++x", set(x, num(5)), num(12), api.OK, set(x, num(7))},
		{"(x = 1) / 0", nil, none, api.ErrDivide, set(x, num(1))},
		{"a[1] /= 0", nil, none, api.ErrDivide, elem(0, "1", none)},
		{"a[x = 1] = x + 1", nil, num(2), api.OK, all(set(x, num(1)), elem(0, "1", num(2)))},
		{"(1 in a)", nil, num(0), api.OK, nil},
		{`(CONVFMT = "%d") 0.5`, nil, none, api.ErrConv, set(api.VarConvfmt, str("%d"))},
		{`split("b a c", a, " ")`, nil, num(3), api.OK, list("b", "a", "c")},
		{"asort(a)", list("b", "a", "c"), num(3), api.OK, list("a", "b", "c")},
		{`sub("b", "xx", $0)`, field(0, str("abc abc")), num(1), api.OK, field(0, str("axxc abc"))},
		{`gsub("b", "", $0)`, field(0, str("abc abc")), num(2), api.OK, field(0, str("ac ac"))},
		{`gsub("q", "r", x)`, nil, num(0), api.OK, nil},
		{"length(0.1)", nil, num(3), api.OK, nil},
		{`substr("hello", 2, 3)`, nil, str("ell"), api.OK, nil},
		{`sprintf("%5.2f|%s", 3.14159, "z")`, nil, str(" 3.14|z"), api.OK, nil},
		{"NF = 1", nil, num(1), api.OK, set(api.VarNf, num(1))},
		{`$5 = "e"`, nil, str("e"), api.OK, field(5, str("e"))},
	})
	s := made(field(5, str("e")))
	if v, _ := s.Field(0); v != str("10 abc   e") {
		t.Errorf("$0 is %s", brief(v))
	}
}

// list: array 0 holds these strings at the keys 1, 2 and on.
func list(texts ...string) change {
	return func(s *store.Store) {
		for i, text := range texts {
			s.SetElem(0, strconv.Itoa(i+1), str(text))
		}
	}
}

// P25.1: leaves: numbers of any bits, strings of any bytes, variables of any kind.
func TestLeaves(t *testing.T) {
	for _, d := range []uint64{0, 1, api.One, api.Sign, api.Most, api.Inf, api.Inf | api.Sign, api.NaN, api.NaN | api.Sign, api.NaN | 7, api.Inf + 1, 1<<64 - 1} {
		hold(t, "a number", api.Tree{Nodes: leaf(api.Node{Kind: api.NodeNum, Num: d})}, begun(), pattern(d), api.OK, begun())
		pos := over(api.Node{Kind: api.NodePos}, leaf(api.Node{Kind: api.NodeNum, Num: d}))
		hold(t, "a number behind +", api.Tree{Nodes: pos}, begun(), pattern(d), api.OK, begun())
		neg := over(api.Node{Kind: api.NodeNeg}, leaf(api.Node{Kind: api.NodeNum, Num: d}))
		hold(t, "a number behind -", api.Tree{Nodes: neg}, begun(), pattern(d^api.Sign), api.OK, begun())
	}
	for _, text := range []string{"", "10", "a\x00\xff\n\"", row(most), row(most + 1)} {
		hold(t, "a string", api.Tree{Nodes: strNode(text)}, begun(), str(text), api.OK, begun())
	}
	for i := range api.MaxVars {
		for _, v := range []api.Value{none, num(7), pattern(api.NaN | 5), str("s"), strnum(8, "9")} {
			s := made(set(i, v))
			want, _ := s.Var(i)
			hold(t, "a variable", api.Tree{Nodes: varNode(i)}, s, want, api.OK, made(set(i, v)))
		}
	}
}

// P25.1: a field's number is cut, and must be from 0 to MaxFields, where it is read and where it is written.
func TestFields(t *testing.T) {
	huge := float64(1 << 62)
	for _, l := range []struct {
		i     api.Value
		place int // -1: none
	}{
		{num(0), 0}, {minus0, 0}, {num(0.99), 0}, {num(-0.99), 0}, {num(5e-324), 0}, {num(-5e-324), 0}, {none, 0}, {str("x"), 0}, {str(""), 0}, {strnum(0, "1"), 0},
		{num(1), 1}, {num(1.99), 1}, {str("1x"), 1}, {str(" 1e0"), 1}, {strnum(1, "2"), 1}, {num(2), 2}, {num(2.5), 2}, {num(3), 3}, {num(last - 1), last - 1}, {num(last), last}, {num(last + 0.99), last},
		{num(-1), -1}, {num(-1.5), -1}, {num(last + 1), -1}, {num(1e9), -1}, {num(1e300), -1}, {num(-1e300), -1}, {str("-1"), -1}, {str("1e999"), -1}, {strnum(-1, "1"), -1},
		{num(1 << 31), -1}, {num(1 << 32), -1}, {num(1<<32 + 1), -1}, {num(-1 << 32), -1}, {num(1<<53 + 2), -1}, {num(huge * 2), -1}, {num(huge * 4), -1}, {num(huge * 8), -1}, {num(-huge * 2), -1}, {num(-huge * 4), -1},
		{pattern(api.NaN), -1}, {pattern(api.NaN | api.Sign), -1}, {pattern(api.NaN | 9), -1}, {pattern(api.Inf), -1}, {pattern(api.Inf | api.Sign), -1}, {pattern(api.Most), -1},
	} {
		if l.place < 0 {
			for _, text := range []string{"$x", "$x = 5", "$x += 5", "$x /= 0", "$x++", "--$x", `sub("q", "5", $x)`, `gsub("", "5", $x)`} {
				holdLines(t, []line{{text, set(x, l.i), none, api.ErrField, nil}})
			}
			continue
		}
		old, _ := begun().Field(l.place)
		text, n := old.Str, 0.0
		if l.place < 2 {
			n = 10
		}
		holdLines(t, []line{
			{"$x", set(x, l.i), old, api.OK, nil},
			{`$x = "p q"`, set(x, l.i), str("p q"), api.OK, field(l.place, str("p q"))},
			{"$x += 5", set(x, l.i), num(n + 5), api.OK, field(l.place, num(n+5))},
			{"$x /= 0", set(x, l.i), none, api.ErrDivide, nil},
			{"$x ^= 0.5", set(x, l.i), none, api.ErrPower, nil},
			{"$x++", set(x, l.i), num(n), api.OK, field(l.place, num(n+1))},
			{"--$x", set(x, l.i), num(n - 1), api.OK, field(l.place, num(n-1))},
			{`sub("", "5", $x)`, set(x, l.i), num(1), api.OK, field(l.place, str("5"+text))},
			{`gsub("q", "5", $x)`, set(x, l.i), num(0), api.OK, nil},
		})
	}
}
