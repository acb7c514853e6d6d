package walk_test

import (
	"testing"

	"abacus/api"
	"abacus/store"
)

// A store whose second field has no text by the CONVFMT that holds, so that no record can be made of its fields.
func stuck(s *store.Store) {
	s.SetField(2, num(0.5))
	s.SetVar(api.VarConvfmt, str("%d"))
}

// P25.1: NodeAssign writes the right side's value, and answers it as it is.
func TestAssign(t *testing.T) {
	loose := field(0, str("10   abc"))
	bad := set(api.VarConvfmt, str("%d"))
	holdLines(t, []line{
		{"x = $1", nil, strnum(10, "10"), api.OK, set(x, strnum(10, "10"))},
		{"x = y", set(x, num(5)), none, api.OK, set(x, none)},
		{"x = x", set(x, str("s")), str("s"), api.OK, nil},
		{"x = y = z = $2", nil, str("abc"), api.OK, all(set(x, str("abc")), set(y, str("abc")), set(z, str("abc")))},
		{"a[1] = $1", nil, strnum(10, "10"), api.OK, elem(0, "1", strnum(10, "10"))},
		{"a[1] = x", elem(0, "1", num(1)), none, api.OK, elem(0, "1", none)},
		{"a[1] = a[2] = 3", nil, num(3), api.OK, all(elem(0, "1", num(3)), elem(0, "2", num(3)))},
		{"a[1] = b[1]", elem(0, "1", num(1)), none, api.OK, all(elem(0, "1", none), elem(1, "1", none))},
		{"$2 = 0.5", nil, num(0.5), api.OK, field(2, num(0.5))},
		{"$2 = $1", nil, strnum(10, "10"), api.OK, field(2, strnum(10, "10"))},
		{"$2 = $2", loose, str("abc"), api.OK, field(2, str("abc"))},
		{"$0 = $0", loose, str("10   abc"), api.OK, nil},
		{"$0 = 0.25", nil, num(0.25), api.OK, field(0, num(0.25))},
		{"$0 = $1", nil, strnum(10, "10"), api.OK, field(0, str("10"))},
		{"$0 = x", nil, none, api.OK, field(0, none)},
		{"$4 = x", nil, none, api.OK, field(4, none)},
		{`$1 = OFS = "-"`, nil, str("-"), api.OK, all(set(api.VarOfs, str("-")), field(1, str("-")))},
		{`$0 = FS = "b"`, nil, str("b"), api.OK, all(set(api.VarFs, str("b")), field(0, str("b")))},
		{`NF = "2x"`, loose, str("2x"), api.OK, set(api.VarNf, num(2))},
		{"NF = 1.9", nil, num(1.9), api.OK, set(api.VarNf, num(1))},
		{"NF = -0.9", nil, num(-0.9), api.OK, set(api.VarNf, num(0))},
		{"NF = $1", nil, strnum(10, "10"), api.OK, set(api.VarNf, num(10))},
		{"x = NF = 1.5", nil, num(1.5), api.OK, all(set(api.VarNf, num(1)), set(x, num(1.5)))},
		{"NF = x", nil, none, api.OK, set(api.VarNf, num(0))},
		{"NF = -1", nil, none, api.ErrField, nil},
		{"NF = 32769", nil, none, api.ErrField, nil},
		{"NF = x", set(x, pattern(api.NaN)), none, api.ErrField, nil},
		{"y = NF = -1", set(y, num(3)), none, api.ErrField, nil},
		{"NR = 7", nil, num(7), api.OK, set(api.VarNr, num(7))},
		{"CONVFMT = x", nil, none, api.OK, set(api.VarConvfmt, none)},
		{"x = 0.5", bad, num(0.5), api.OK, set(x, num(0.5))},
		{"$1 = 0.5", bad, none, api.ErrConv, nil},
		{"$0 = 0.5", bad, none, api.ErrConv, nil},
		{"$1 = 5", stuck, none, api.ErrConv, nil},
		{"NF = 2", stuck, none, api.ErrConv, nil},
		{"NF = 1", stuck, num(1), api.OK, set(api.VarNf, num(1))},
		{"$2 = 5", stuck, num(5), api.OK, field(2, num(5))},
		{"$0 = 5", all(bad, set(api.VarFs, num(0.5))), none, api.ErrConv, nil},
		{"$1 = 5", all(bad, set(api.VarOfs, num(0.5))), none, api.ErrConv, nil},
		{"NF = 1", all(bad, set(api.VarOfs, num(0.5))), none, api.ErrConv, nil},
		{"x = 1 / 0", set(x, num(5)), none, api.ErrDivide, nil},
		{"a[1] = 1 / 0", nil, none, api.ErrDivide, nil},
	})
}

// P25.1: NodeOpSet reads its target behind the right side, and writes the number that it answers.
func TestOpSet(t *testing.T) {
	holdLines(t, []line{
		{"x += 1", nil, num(1), api.OK, set(x, num(1))},
		{`x -= "2x"`, set(x, str("5y")), num(3), api.OK, set(x, num(3))},
		{"x *= x = 3", set(x, num(5)), num(9), api.OK, set(x, num(9))},
		{"x /= x++", set(x, num(5)), num(1.2), api.OK, set(x, num(1.2))},
		{"x -= y -= 3", all(set(x, num(1)), set(y, num(1))), num(3), api.OK, all(set(x, num(3)), set(y, num(-2)))},
		{"x %= -4", set(x, num(-7)), num(-3), api.OK, set(x, num(-3))},
		{"x ^= 3", set(x, num(-2)), num(-8), api.OK, set(x, num(-8))},
		{"x /= 0", set(x, str("s")), none, api.ErrDivide, nil},
		{"x %= -y", set(x, num(1)), none, api.ErrDivide, nil},
		{"x ^= 0.5", set(x, num(1)), none, api.ErrPower, nil},
		{"x ^= 1025", set(x, num(1)), none, api.ErrPower, nil},
		{"a[1] += 5", nil, num(5), api.OK, elem(0, "1", num(5))},
		{"a[1] -= a[1] = 3", nil, num(0), api.OK, elem(0, "1", num(0))},
		{"a[1] %= 0", nil, none, api.ErrDivide, elem(0, "1", none)},
		{"a[1] ^= 0.5", nil, none, api.ErrPower, elem(0, "1", none)},
		{"a[1] /= 0", elem(0, "1", str("s")), none, api.ErrDivide, nil},
		{"a[1] += 1 / 0", nil, none, api.ErrDivide, nil},
		{"$1 += 5", nil, num(15), api.OK, field(1, num(15))},
		{"$2 += 0.5", nil, num(0.5), api.OK, field(2, num(0.5))},
		{"$4 -= 1", nil, num(-1), api.OK, field(4, num(-1))},
		{"$0 *= 2", nil, num(20), api.OK, field(0, num(20))},
		{`$1 += ($0 = "7 8")`, nil, num(14), api.OK, all(field(0, str("7 8")), field(1, num(14)))},
		{"$1 += 5", stuck, none, api.ErrConv, nil},
		{"$1 /= 0", stuck, none, api.ErrDivide, nil},
		{"$2 += 0.25", set(api.VarConvfmt, str("%d")), none, api.ErrConv, nil},
		{"NF += 1.5", nil, num(3.5), api.OK, set(api.VarNf, num(3))},
		{"NF -= 2.5", nil, num(-0.5), api.OK, set(api.VarNf, num(0))},
		{"NF -= 3", nil, none, api.ErrField, nil},
		{"NF += NF = 1", nil, num(2), api.OK, all(set(api.VarNf, num(1)), set(api.VarNf, num(2)))},
		{"CONVFMT += 1", nil, num(1), api.OK, set(api.VarConvfmt, num(1))},
	})
}

// P25.1: NodeStep answers the number ahead of the step or behind it.
func TestStep(t *testing.T) {
	holdLines(t, []line{
		{"x++", nil, num(0), api.OK, set(x, num(1))},
		{"x--", nil, num(0), api.OK, set(x, num(-1))},
		{"++x", nil, num(1), api.OK, set(x, num(1))},
		{"--x", nil, num(-1), api.OK, set(x, num(-1))},
		{"x++", set(x, str("3x")), num(3), api.OK, set(x, num(4))},
		{"x--", set(x, strnum(7, "8")), num(7), api.OK, set(x, num(6))},
		{"x++", set(x, minus0), minus0, api.OK, set(x, num(1))},
		{"x++", set(x, pattern(api.NaN|api.Sign|5)), pattern(api.NaN | api.Sign | 5), api.OK, set(x, pattern(api.NaN))},
		{"++x", set(x, num(1<<53)), num(1 << 53), api.OK, set(x, num(1<<53))},
		{"--x", set(x, num(0.1)), num(0.1 - 1), api.OK, set(x, num(-0.9))},
		{"a[1]++ + ++a[1]", nil, num(2), api.OK, elem(0, "1", num(2))},
		{"a[1]--", elem(0, "1", str("5")), num(5), api.OK, elem(0, "1", num(4))},
		{"$1++", nil, num(10), api.OK, field(1, num(11))},
		{"$2--", nil, num(0), api.OK, field(2, num(-1))},
		{"$4++", nil, num(0), api.OK, field(4, num(1))},
		{"++$0", nil, num(11), api.OK, field(0, num(11))},
		{"NF++", nil, num(2), api.OK, set(api.VarNf, num(3))},
		{"--NF", nil, num(1), api.OK, set(api.VarNf, num(1))},
		{"NF--", set(api.VarNf, num(0)), none, api.ErrField, nil},
		{"--NF", set(api.VarNf, num(0)), none, api.ErrField, nil},
		{"NF++", set(api.VarNf, num(last)), none, api.ErrField, nil},
		{"$1++", stuck, none, api.ErrConv, nil},
		{"--$1", stuck, none, api.ErrConv, nil},
		{"NF++", stuck, none, api.ErrConv, nil},
	})
}

// P25.1: sub and gsub replace in a target, which is written just if something was replaced.
func TestReplace(t *testing.T) {
	text := func(s string) change { return set(x, str(s)) }
	bad := set(api.VarConvfmt, str("%d"))
	holdLines(t, []line{
		{`sub("an", "<>", x)`, text("banana"), num(1), api.OK, text("b<>ana")},
		{`gsub("an", "<>", x)`, text("banana"), num(2), api.OK, text("b<><>a")},
		{`sub("", "-", x)`, text("ab"), num(1), api.OK, text("-ab")},
		{`gsub("", "-", x)`, text("ab"), num(3), api.OK, text("-a-b-")},
		{`gsub(y, "-", x)`, nil, num(1), api.OK, text("-")},
		{`gsub("a.", "&\\", x)`, text("ab a. a."), num(2), api.OK, text("ab &\\ &\\")},
		{`sub(".", ",", x)`, set(x, num(10.5)), num(1), api.OK, text("10,5")},
		{`gsub(0, 1.5, x)`, set(x, num(100.5)), num(2), api.OK, text("11.51.5.5")},
		{`sub("1", "1", x)`, set(x, strnum(1, "1")), num(1), api.OK, text("1")},
		{`sub("q", "1", x)`, set(x, strnum(1, "1")), num(0), api.OK, nil},
		{`gsub("q", "1", x)`, set(x, num(0.5)), num(0), api.OK, nil},
		{`sub("q", "r", a[1])`, nil, num(0), api.OK, elem(0, "1", none)},
		{`sub("", "r", a[1])`, nil, num(1), api.OK, elem(0, "1", str("r"))},
		{`gsub("v", "w", a["k"])`, elem(0, "k", str("vv")), num(2), api.OK, elem(0, "k", str("ww"))},
		{`sub("0", "p q")`, nil, num(1), api.OK, field(0, str("1p q abc"))},
		{`gsub("10", "p q", $1)`, nil, num(1), api.OK, field(1, str("p q"))},
		{`gsub(" ", "-", $0)`, nil, num(1), api.OK, field(0, str("10-abc"))},
		{`sub("", "x", $4)`, nil, num(1), api.OK, field(4, str("x"))},
		{`sub("q", "x", $4)`, nil, num(0), api.OK, nil},
		{`sub("2", "1", NF)`, nil, num(1), api.OK, set(api.VarNf, num(1))},
		{`sub("2", "-1", NF)`, nil, none, api.ErrField, nil},
		{`sub("6", "2", CONVFMT)`, nil, num(1), api.OK, set(api.VarConvfmt, str("%.2g"))},
		{`sub(x = "a", y, z)`, set(z, str("ca")), num(1), api.OK, all(set(x, str("a")), set(z, str("c")))},
		{`gsub(x, x = "b", x)`, text("a"), num(0), api.OK, text("b")},
		{`gsub(x = "b", y = "c", x)`, text("a"), num(1), api.OK, all(set(y, str("c")), text("c"))},
		{`sub(0.5, "r", x)`, bad, none, api.ErrConv, nil},
		{`sub("q", 0.5, x)`, bad, none, api.ErrConv, nil},
		{`sub("q", "r", x)`, all(bad, set(x, num(0.5))), none, api.ErrConv, nil},
		{`sub("q", "r", a[1])`, all(bad, elem(0, "1", num(0.5))), none, api.ErrConv, nil},
		{`sub("1", "2", $1)`, stuck, none, api.ErrConv, nil},
		{`sub("q", "2", $1)`, stuck, num(0), api.OK, nil},
		{`gsub(1 / 0, "2", x)`, nil, none, api.ErrDivide, nil},
	})
}
