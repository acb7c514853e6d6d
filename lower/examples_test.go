package lower_test

import (
	"slices"
	"testing"

	"abacus/api"
	"abacus/lower"
)

// P28.3: the chapter's examples of Fold.
func TestFoldExamples(t *testing.T) {
	holdFolds(t, []foldLine{
		{"1 + 2 * 3", "7"}, {"x + 2 * 3", "x + 6"}, {"2 * 3 + x", "6 + x"}, {"1 + x + 2", "1 + x + 2"},
		{"1 / 0", "1 / 0"}, {"x = 4 / 2", "x = 2"}, {"a[1 + 1]", "a[2]"}, {"$(3 - 2)", "$1"},
		{"0 && x++", "0"}, {"1 && x", "1 && x"}, {"1 || 1 / 0", "1"}, {"0 || 1 / 0", "0 || 1 / 0"}, {"1 && 1 / 0", "1 && 1 / 0"}, {"2 && 3", "1"},
		{"1 ? x : 1 / 0", "x"}, {"0 ? x : 2 + 3", "5"}, {"x ? 1 + 1 : 2", "x ? 2 : 2"},
		{`"a" "b"`, `"a" "b"`}, {"1 2", "1 2"}, {"int(2.5) + sqrt(16)", "6"}, {"2 ^ 0.5", "2 ^ 0.5"},
	})
	if got := folded(t, "-(5)", read(t, "-(5)")); !slices.Equal(got.Nodes, numNode(-5)) {
		t.Errorf("Fold(-(5)): %s", brief(got))
	}
}

// P28.1: the chapter's examples of Compile.
func TestCompileExamples(t *testing.T) {
	if c, e := lower.Compile(api.Tree{}); len(c.Ops)+len(c.Nums)+len(c.Strs) > 0 || e != api.ErrTree {
		t.Errorf("Compile of no nodes: %s, error %d", brief(c), e)
	}
	hold(t, "5", api.Tree{Nodes: numNode(5)}, begun().Dump(), answer{num(5), api.OK}, begun().Dump())
}

// P28.2: the examples of the walk's chapter.
func TestWalkExamples(t *testing.T) {
	holdLines(t, []line{
		{"1 + 2 * 3", nil, num(7), api.OK, nil},
		{"2 ^ 3 ^ 2", nil, num(512), api.OK, nil},
		{"-2 ^ 2", nil, num(-4), api.OK, nil},
		{"7 % -3", nil, num(1), api.OK, nil},
		{"1 / 0", nil, none, api.ErrDivide, nil},
		{"0 % 0", nil, none, api.ErrDivide, nil},
		{"2 ^ 0.5", nil, none, api.ErrPower, nil},
		{"x", nil, none, api.OK, nil},
		{"x + 1", nil, num(1), api.OK, nil},
		{`x ""`, nil, str(""), api.OK, nil},
		{"!x", nil, num(1), api.OK, nil},
		{"-x", nil, minus0, api.OK, nil},
		{`1 " " 2`, nil, str("1 2"), api.OK, nil},
		{`(0.1 + 0.2) ""`, nil, str("0.3"), api.OK, nil},
		{"$1", nil, strnum(10, "10"), api.OK, nil},
		{`$1 == "10"`, nil, num(1), api.OK, nil},
		{"$1 == 10.0", nil, num(1), api.OK, nil},
		{"$2 > 5", nil, num(1), api.OK, nil},
		{"$(-0.5)", nil, str("10 abc"), api.OK, nil},
		{"$1e9", nil, none, api.ErrField, nil},
		{"$3", nil, none, api.OK, nil},
		{"(x = 3) + x", nil, num(6), api.OK, set(x, num(3))},
		{"x + (x = 3)", nil, num(3), api.OK, set(x, num(3))},
		{"x (x = 2)", set(x, num(1)), str("12"), api.OK, set(x, num(2))},
		{"x = y = 2", nil, num(2), api.OK, all(set(x, num(2)), set(y, num(2)))},
		{"x += x++", set(x, num(5)), num(11), api.OK, set(x, num(11))},
		{"x++ + ++x", set(x, num(5)), num(12), api.OK, set(x, num(7))},
		{"(x = 1) / 0", nil, none, api.ErrDivide, set(x, num(1))},
		{"a[1] /= 0", nil, none, api.ErrDivide, elem(0, "1", none)},
		{"a[x = 1] = x + 1", nil, num(2), api.OK, all(set(x, num(1)), elem(0, "1", num(2)))},
		{"(1 in a)", nil, num(0), api.OK, nil},
		{`(CONVFMT = "%d") 0.5`, nil, none, api.ErrConv, format("%d")},
		{`split("b a c", a, " ")`, nil, num(3), api.OK, all(elem(0, "1", str("b")), elem(0, "2", str("a")), elem(0, "3", str("c")))},
		{"asort(a)", all(elem(0, "1", str("b")), elem(0, "2", str("a"))), num(2), api.OK, all(elem(0, "1", str("a")), elem(0, "2", str("b")))},
		{`sub("b", "xx", $0)`, field(0, str("abc abc")), num(1), api.OK, field(0, str("axxc abc"))},
		{`gsub("b", "", $0)`, field(0, str("abc abc")), num(2), api.OK, field(0, str("ac ac"))},
		{`gsub("q", "r", x)`, nil, num(0), api.OK, nil},
		{"length(0.1)", nil, num(3), api.OK, nil},
		{`substr("hello", 2, 3)`, nil, str("ell"), api.OK, nil},
		{`sprintf("%5.2f|%s", 3.14159, "z")`, nil, str(" 3.14|z"), api.OK, nil},
		{"NF = 1", nil, num(1), api.OK, set(api.VarNf, num(1))},
		{`$5 = "e"`, nil, str("e"), api.OK, field(5, str("e"))},
	})
}
