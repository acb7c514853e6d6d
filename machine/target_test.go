package machine_test

import (
	"testing"

	"abacus/api"
	"abacus/store"
)

// A store whose second field has no text by the CONVFMT that holds, so that no record can be made of its fields.
func stuck(s *store.Store) {
	s.SetField(2, num(0.5))
	s.SetVar(api.VarConvfmt, str("%d"))
}

// P27.1: setvar, setfield and setelem write a value, and put it as it is, not as it is read behind the writing.
func TestSet(t *testing.T) {
	loose := field(0, str("10   abc"))
	bad := format("%d")
	holdLines(t, []line{
		{"num 1; field; setvar x", nil, strnum(10, "10"), api.OK, set(x, strnum(10, "10"))},
		{"var y; setvar x", set(x, num(5)), none, api.OK, set(x, none)},
		{"num 2; field; setvar z; setvar y; setvar x", nil, str("abc"), api.OK, all(set(x, str("abc")), set(y, str("abc")), set(z, str("abc")))},
		{`str "2x"; setvar NF`, loose, str("2x"), api.OK, set(api.VarNf, num(2))},
		{"num 1.9; setvar NF", nil, num(1.9), api.OK, set(api.VarNf, num(1))},
		{"num -0.9; setvar NF", nil, num(-0.9), api.OK, set(api.VarNf, num(0))},
		{"var x; setvar NF", nil, none, api.OK, set(api.VarNf, num(0))},
		{"num -1; setvar NF", nil, none, api.ErrField, nil},
		{"num 32769; setvar NF", nil, none, api.ErrField, nil},
		{"num nan; setvar NF", nil, none, api.ErrField, nil},
		{"num 1; setvar NF", all(bad, set(api.VarOfs, num(0.5))), none, api.ErrConv, nil},
		{"num 2; setvar NF", stuck, none, api.ErrConv, nil},
		{"num 1; setvar NF", stuck, num(1), api.OK, set(api.VarNf, num(1))},
		{"num 0.5; setvar x", bad, num(0.5), api.OK, set(x, num(0.5))},
		{"num 0.5; setvar CONVFMT", nil, num(0.5), api.OK, set(api.VarConvfmt, num(0.5))},
		{"num 2; num 0.5; setfield", nil, num(0.5), api.OK, field(2, num(0.5))},
		{"num 2; num 1; field; setfield", nil, strnum(10, "10"), api.OK, field(2, strnum(10, "10"))},
		{"num 2; num 2; field; setfield", loose, str("abc"), api.OK, field(2, str("abc"))},
		{"num 0; num 0; field; setfield", loose, str("10   abc"), api.OK, nil},
		{"num 0; num 0.25; setfield", nil, num(0.25), api.OK, field(0, num(0.25))},
		{"num 0; var x; setfield", nil, none, api.OK, field(0, none)},
		{"num 5; var x; setfield", nil, none, api.OK, field(5, none)},
		{"num 1; num 0.5; setfield", bad, none, api.ErrConv, nil},
		{"num 0; num 0.5; setfield", bad, none, api.ErrConv, nil},
		{"num 1; num 5; setfield", stuck, none, api.ErrConv, nil},
		{"num 0; num 5; setfield", all(bad, set(api.VarFs, num(0.5))), none, api.ErrConv, nil},
		{"num 1; num 5; setfield", all(bad, set(api.VarOfs, num(0.5))), none, api.ErrConv, nil},
		{"num -1; num 5; setfield", all(bad, set(api.VarOfs, num(0.5))), none, api.ErrField, nil},
		{"num 1; num 1; field; setelem a", nil, strnum(10, "10"), api.OK, elem(0, "1", strnum(10, "10"))},
		{"num 1; var x; setelem a", elem(0, "1", num(1)), none, api.OK, elem(0, "1", none)},
		{"num 0.5; num 7; setelem b", nil, num(7), api.OK, elem(1, "0.5", num(7))},
		{"num 0.5; num 7; setelem b", bad, none, api.ErrConv, nil},
		{"num 5; num 0.5; setelem b", bad, num(0.5), api.OK, elem(1, "5", num(0.5))},
	})
}

// P27.1: opvar, opfield and opelem read their target, then write the number; an element that was read stays.
func TestOp(t *testing.T) {
	bad := format("%d")
	holdLines(t, []line{
		{"num 1; opvar x +", nil, num(1), api.OK, set(x, num(1))},
		{`str "2x"; opvar x -`, set(x, str("5y")), num(3), api.OK, set(x, num(3))},
		{"stepvar x v++; opvar x +", set(x, num(5)), num(11), api.OK, set(x, num(11))},
		{"num 0; opvar x /", set(x, str("s")), none, api.ErrDivide, nil},
		{"var y; neg; opvar x %", set(x, num(1)), none, api.ErrDivide, nil},
		{"num 0.5; opvar x ^", set(x, num(1)), none, api.ErrPower, nil},
		{"num 1.5; opvar NF +", nil, num(3.5), api.OK, set(api.VarNf, num(3))},
		{"num 3; opvar NF -", nil, none, api.ErrField, nil},
		{"num 1; setvar NF; opvar NF +", nil, num(2), api.OK, all(set(api.VarNf, num(1)), set(api.VarNf, num(2)))},
		{"num 1; num 5; opfield +", nil, num(15), api.OK, field(1, num(15))},
		{"num 4; num 1; opfield -", nil, num(-1), api.OK, field(4, num(-1))},
		{"num 0; num 2; opfield *", nil, num(20), api.OK, field(0, num(20))},
		{"num 1; num 5; opfield +", stuck, none, api.ErrConv, nil},
		{"num 1; num 0; opfield /", stuck, none, api.ErrDivide, nil},
		{"num -1; num 0; opfield /", nil, none, api.ErrField, nil},
		{"num -1; num 0.5; opfield ^", nil, none, api.ErrField, nil},
		{"num 1; num 5; opelem a +", nil, num(5), api.OK, elem(0, "1", num(5))},
		{"num 1; num 0; opelem a /", nil, none, api.ErrDivide, elem(0, "1", none)},
		{"num 1; num 0; opelem b %", nil, none, api.ErrDivide, elem(1, "1", none)},
		{"num 1; num 0.5; opelem a ^", nil, none, api.ErrPower, elem(0, "1", none)},
		{"num 1; num 0; opelem a /", elem(0, "1", str("s")), none, api.ErrDivide, nil},
		{"num 0.5; num 0; opelem a /", bad, none, api.ErrConv, nil},
		{"num 0.5; num 3; opelem a *", all(format("%.2f"), elem(0, "0.50", strnum(2, "x"))), num(6), api.OK, elem(0, "0.50", num(6))},
	})
}

// P27.1: stepvar, stepfield and stepelem where the writing or the key is refused, and over NF and what isn't there.
func TestStep(t *testing.T) {
	bad := format("%d")
	holdLines(t, []line{
		{"stepvar NF v++", nil, num(2), api.OK, set(api.VarNf, num(3))},
		{"stepvar NF --v", nil, num(1), api.OK, set(api.VarNf, num(1))},
		{"stepvar NF v--", set(api.VarNf, num(0)), none, api.ErrField, nil},
		{"stepvar NF ++v", set(api.VarNf, num(last)), none, api.ErrField, nil},
		{"stepvar NF v++", stuck, none, api.ErrConv, nil},
		{"num 4; stepfield v++", nil, num(0), api.OK, field(4, num(1))},
		{"num 0; stepfield ++v", nil, num(11), api.OK, field(0, num(11))},
		{"num 1; stepfield v--", stuck, none, api.ErrConv, nil},
		{"num 7; stepelem b v--", nil, num(0), api.OK, elem(1, "7", num(-1))},
		{"num 0.5; stepelem b ++v", format("%.3f"), num(1), api.OK, elem(1, "0.500", num(1))},
		{"num 0.5; stepelem b ++v", bad, none, api.ErrConv, nil},
	})
}

// P27.1: subvar, subfield and subelem replace in a target, which is written just if something was replaced.
func TestSub(t *testing.T) {
	text := func(s string) change { return set(x, str(s)) }
	bad := format("%d")
	holdLines(t, []line{
		{`str "an"; str "<>"; subvar x sub`, text("banana"), num(1), api.OK, text("b<>ana")},
		{`str "an"; str "<>"; subvar x gsub`, text("banana"), num(2), api.OK, text("b<><>a")},
		{`str ""; str "-"; subvar x gsub`, text("ab"), num(3), api.OK, text("-a-b-")},
		{`str "."; str ","; subvar x sub`, set(x, num(10.5)), num(1), api.OK, text("10,5")},
		{`num 0; num 1.5; subvar x gsub`, set(x, num(100.5)), num(2), api.OK, text("11.51.5.5")},
		{`str "1"; str "1"; subvar x sub`, set(x, strnum(1, "1")), num(1), api.OK, text("1")},
		{`str "q"; str "1"; subvar x sub`, set(x, strnum(1, "1")), num(0), api.OK, nil},
		{`str "2"; str "1"; subvar NF sub`, nil, num(1), api.OK, set(api.VarNf, num(1))},
		{`str "2"; str "-1"; subvar NF sub`, nil, none, api.ErrField, nil},
		{`str "0"; str "p q"; num 0; subfield sub`, nil, num(1), api.OK, field(0, str("1p q abc"))},
		{`str "10"; str "p q"; num 1; subfield gsub`, nil, num(1), api.OK, field(1, str("p q"))},
		{`str ""; str "x"; num 4; subfield sub`, nil, num(1), api.OK, field(4, str("x"))},
		{`str "q"; str "x"; num 4; subfield sub`, nil, num(0), api.OK, nil},
		{`str "1"; str "2"; num 1; subfield sub`, stuck, none, api.ErrConv, nil},
		{`str "q"; str "2"; num 1; subfield sub`, stuck, num(0), api.OK, nil},
		{`str "q"; str "r"; num 1; subelem a sub`, nil, num(0), api.OK, elem(0, "1", none)},
		{`str ""; str "r"; num 1; subelem b gsub`, nil, num(1), api.OK, elem(1, "1", str("r"))},
		{`str "v"; str "w"; str "k"; subelem a gsub`, elem(0, "k", str("vv")), num(2), api.OK, elem(0, "k", str("ww"))},
		{`str "v"; str "w"; num 0.5; subelem a sub`, all(format("%.2f"), elem(0, "0.50", str("vv"))), num(1), api.OK, elem(0, "0.50", str("wv"))},
		// The texts of what is sought and of what stands in its place come first, then the key or the field's number, then the target's text.
		{`num 0.5; str "r"; subvar x sub`, bad, none, api.ErrConv, nil},
		{`str "q"; num 0.5; subvar x sub`, bad, none, api.ErrConv, nil},
		{`str "q"; str "r"; subvar x sub`, all(bad, set(x, num(0.5))), none, api.ErrConv, nil},
		{`num 0.5; str "r"; num -1; subfield sub`, bad, none, api.ErrConv, nil},
		{`str "q"; num 0.5; num -1; subfield sub`, bad, none, api.ErrConv, nil},
		{`str "q"; str "r"; num -1; subfield sub`, stuck, none, api.ErrField, nil},
		{`str "q"; str "r"; num 2; subfield sub`, stuck, none, api.ErrConv, nil},
		{`str "q"; num 0.5; num 1; subelem a sub`, bad, none, api.ErrConv, nil},
		{`num 0.5; str "q"; num 1; subelem a sub`, bad, none, api.ErrConv, nil},
		{`str "q"; str "r"; num 0.5; subelem a sub`, bad, none, api.ErrConv, nil},
		{`str "q"; str "r"; num 1; subelem a sub`, all(bad, elem(0, "1", num(0.5))), none, api.ErrConv, nil},
	})
}

// P27.1: texts, keys and fields' numbers are made when their instruction is carried out, by CONVFMT and SUBSEP as they are then; a value that stands on the stack stays what it was.
func TestWhen(t *testing.T) {
	set2, comma := `str "%.2f"; setvar CONVFMT; pop; `, `str ","; setvar SUBSEP; pop; `
	holdLines(t, []line{
		{"num 0.5; " + set2 + "num 0.25; cat", nil, str("0.500.25"), api.OK, format("%.2f")},
		{`num 0.5; str ""; cat; ` + set2 + "num 0.25; cat", nil, str("0.50.25"), api.OK, format("%.2f")},
		{"num 0.5; " + set2 + "num 7; setelem a", nil, num(7), api.OK, all(format("%.2f"), elem(0, "0.50", num(7)))},
		{"num 0.5; key 1; " + set2 + "num 7; setelem a", nil, num(7), api.OK, all(format("%.2f"), elem(0, "0.5", num(7)))},
		{"num 0.5; num 1; " + set2 + comma + "key 2; elem a", nil, none, api.OK, all(format("%.2f"), set(api.VarSubsep, str(",")), elem(0, "0.50,1", none))},
		{"num 0.5; num 1; key 2; " + set2 + comma + "elem a", nil, none, api.OK, all(format("%.2f"), set(api.VarSubsep, str(",")), elem(0, "0.5\x1c1", none))},
		{"num 0.5; " + set2 + "stepelem a ++v", nil, num(1), api.OK, all(format("%.2f"), elem(0, "0.50", num(1)))},
		{"num 0.5; " + set2 + "in a", elem(0, "0.50", none), num(1), api.OK, format("%.2f")},
		{"num 0.5; " + set2 + `str "0.50"; rel ==`, nil, num(1), api.OK, format("%.2f")},
		{"num 0.5; " + set2 + "call length 1", nil, num(4), api.OK, format("%.2f")},
		{`num 0.5; str "x"; ` + set2 + "subvar x gsub", set(x, str("0.5 0.50")), num(1), api.OK, all(format("%.2f"), set(x, str("0.5 x")))},
		{`str "0"; ` + set2 + `str "-"; num 0.5; subelem a gsub`, elem(0, "0.50", num(0.5)), num(2), api.OK, all(format("%.2f"), elem(0, "0.50", str("-.5-")))},
		{`str "%s"; num 0.5; ` + set2 + "call sprintf 2", nil, str("0.50"), api.OK, format("%.2f")},
		{"var x; num 2; setvar x; cat", set(x, num(1)), str("12"), api.OK, set(x, num(2))},
		{"num 1; field; num 1; num 5; setfield; cat; num 1; field; cat", nil, str("1055"), api.OK, field(1, num(5))},
		{`num 0; field; num 0; str "p"; setfield; cat`, nil, str("10 abcp"), api.OK, field(0, str("p"))},
		{"num 1; elem a; num 1; num 2; setelem a; cat", elem(0, "1", num(1)), str("12"), api.OK, elem(0, "1", num(2))},
		{"var NF; num 1; setvar NF; cat", nil, str("21"), api.OK, set(api.VarNf, num(1))},
		{`str "%d"; setvar CONVFMT; num 0.5; cat`, nil, none, api.ErrConv, format("%d")},
		// What was done ahead of an error stays done.
		{"num 1; setvar x; field; setvar y; pop; num 2; num 9; setfield; pop; stepvar z ++v; pop; num -1; field", nil, none, api.ErrField, all(set(x, num(1)), set(y, strnum(10, "10")), field(2, num(9)), set(z, num(1)))},
		{`str "p q"; str " "; split a; elem b; pop; num 2; num 0.5; bin ^; setvar x`, nil, none, api.ErrPower, all(elem(0, "1", str("p")), elem(0, "2", str("q")), elem(1, "2", none))},
	})
}
