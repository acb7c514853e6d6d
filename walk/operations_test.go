package walk_test

import (
	"math"
	"slices"
	"strconv"
	"strings"
	"testing"

	"abacus/api"
	"abacus/remain"
	"abacus/store"
	"abacus/walk"
)

// samples: values of every kind, with the number that each counts as.
func samples() map[api.Value]float64 {
	list := map[api.Value]float64{
		none: 0, str(""): 0, str("x"): 0, str("3x"): 3, str(" -0"): math.Copysign(0, -1), str("0"): 0, str("1e999"): math.Inf(1), str("nan"): 0,
		strnum(10, " 10 "): 10, strnum(0, "0.0"): 0, strnum(2, "3"): 2, strnum(0, "7"): 0,
	}
	for _, f := range []float64{0, 1, 2, 3, 0.5, 0.1, 1.5, 7, 10, 1e16, 1e300, 5e-324, math.MaxFloat64, math.Inf(1), math.NaN()} {
		list[num(f)] = f
		list[num(-f)] = -f
	}
	list[minus0] = math.Copysign(0, -1)
	return list
}

// answer: what Eval answers for an expression over a store in which x and y have these values.
func answer(t *testing.T, e api.Tree, v api.Value, w api.Value) (api.Value, api.Errno) {
	t.Helper()
	s := made(set(x, v), set(y, w))
	got, fault := walk.Eval(e, s)
	if !same(s.Dump(), made(set(x, v), set(y, w)).Dump()) {
		t.Fatalf("%s: the store holds %s", brief(e), brief(s.Dump()))
	}
	return got, fault
}

// figured: v op w on the host's floats; the powers as the chapter says, by remain.Pow.
func figured(op int, v float64, w float64) (api.Value, api.Errno) {
	switch op {
	case api.OpAdd:
		return num(v + w), api.OK
	case api.OpSub:
		return num(v - w), api.OK
	case api.OpMul:
		return num(v * w), api.OK
	case api.OpPow:
		d, e := remain.Pow(bits(v), bits(w))
		if e != api.OK {
			return none, e
		}
		return pattern(d), api.OK
	}
	if w == 0 {
		return none, api.ErrDivide
	}
	if op == api.OpDiv {
		return num(v / w), api.OK
	}
	return num(math.Mod(v, w)), api.OK
}

// P25.1: NodeBin, all operators over all pairs of values; NodeOpSet makes the same number, writes it and answers it.
func TestArithmetic(t *testing.T) {
	for op, mark := range []string{"", "+", "-", "*", "/", "%", "^"} {
		if op == 0 {
			continue
		}
		plain, store := read(t, "x "+mark+" y"), read(t, "z "+mark+"= y")
		faults := 0
		for v, f := range samples() {
			for w, g := range samples() {
				want, e := figured(op, f, g)
				got, fault := answer(t, plain, v, w)
				if got != want || fault != e {
					t.Fatalf("%s %s %s = %s, error %d; want %s, %d", brief(v), mark, brief(w), brief(got), fault, brief(want), e)
				}
				s := made(set(z, v), set(y, w))
				got, fault = walk.Eval(store, s)
				kept, _ := s.Var(z)
				if e != api.OK {
					faults++
					want = v // stays
				}
				if e == api.OK && got != want || e != api.OK && got != none || fault != e || kept != want {
					t.Fatalf("%s %s= %s: %s, error %d, behind it %s; want %s, %d", brief(v), mark, brief(w), brief(got), fault, brief(kept), brief(want), e)
				}
			}
		}
		if (faults > 0) != (op >= api.OpDiv) {
			t.Errorf("%s: %d errors", mark, faults)
		}
	}
}

// P25.1: NodeNeg, NodePos, NodeNot and the conditions, over all values.
func TestUnary(t *testing.T) {
	for v, f := range samples() {
		truth := v.Str != ""
		if v.Kind != api.KindStr {
			truth = f != 0
		}
		yes, no, pick := num(0), num(1), str("else")
		if truth {
			yes, no, pick = num(1), num(0), str("then")
		}
		minus := pattern(bits(f) ^ api.Sign)
		for text, want := range map[string]api.Value{
			"+x": num(f), "-x": minus, "!x": no, "!!x": yes, `x ? "then" : "else"`: pick,
			"x && 1": yes, "x && 0": num(0), "x || 0": yes, "x || 1": num(1), "1 && x": yes, "0 && x": num(0), "0 || x": yes, "1 || x": num(1),
			"int(x)": num(math.Trunc(f)), "sqrt(x)": num(math.Sqrt(f)), "sum(x)": num(f + 0), "x++": num(f), "x--": num(f), "++x": num(f + 1), "--x": num(f - 1),
		} {
			if f == 0 && text == "sum(x)" {
				continue // told by TestSum
			}
			s := made(set(x, v))
			if got, e := walk.Eval(read(t, text), s); got != want || e != api.OK {
				t.Errorf("%s with x %s: %s, error %d; want %s", text, brief(v), brief(got), e, brief(want))
			}
			behind := v
			switch {
			case strings.Contains(text, "++"):
				behind = num(f + 1)
			case strings.Contains(text, "--"):
				behind = num(f - 1)
			}
			if got, _ := s.Var(x); got != behind {
				t.Errorf("behind %s with x %s: %s, want %s", text, brief(v), brief(got), brief(behind))
			}
		}
	}
}

// P25.1: NodeRel, all relations over all pairs of values: by number where neither is a string, else by text.
func TestRelations(t *testing.T) {
	text := func(v api.Value, f float64) string {
		if v.Kind != api.KindNum {
			return v.Str
		}
		if f == math.Trunc(f) && math.Abs(f) < 1<<63 {
			return strconv.FormatFloat(f+0, 'f', 0, 64) // +0 for a zero of either sign
		}
		return strings.ToLower(strings.TrimPrefix(strconv.FormatFloat(f, 'g', 6, 64), "+"))
	}
	for v, f := range samples() {
		for w, g := range samples() {
			holds := []bool{f < g, f <= g, f == g, f != g, f > g, f >= g}
			if v.Kind == api.KindStr || w.Kind == api.KindStr {
				c := strings.Compare(text(v, f), text(w, g))
				holds = []bool{c < 0, c <= 0, c == 0, c != 0, c > 0, c >= 0}
			}
			for i, mark := range []string{"<", "<=", "==", "!=", ">", ">="} {
				want := num(0)
				if holds[i] {
					want = num(1)
				}
				if got, e := answer(t, read(t, "x "+mark+" y"), v, w); got != want || e != api.OK {
					t.Fatalf("%s %s %s: %s, error %d; want %s", brief(v), mark, brief(w), brief(got), e, brief(want))
				}
			}
		}
	}
	bad := set(api.VarConvfmt, str("%d"))
	holdLines(t, []line{
		{`0.5 < "x"`, bad, none, api.ErrConv, nil},
		{`"x" == 0.5`, bad, none, api.ErrConv, nil},
		{`5 < "x"`, bad, num(1), api.OK, nil},
		{`0.5 < x`, bad, num(0), api.OK, nil},
		{`0.5 == "0.50"`, set(api.VarConvfmt, str("%.2f")), num(1), api.OK, nil},
		{`0.5 == "x"`, set(api.VarConvfmt, str(row(most)+"%d")), none, api.ErrConv, nil},
		{`0.5 == "x"`, set(api.VarConvfmt, str(row(most)+"%g")), none, api.ErrLong, nil},
		{`0.5 == "x"`, set(api.VarConvfmt, str("")), none, api.ErrConv, nil},
		{`0.5 == "x"`, set(api.VarConvfmt, none), none, api.ErrConv, nil},
		{`0.5 == "x"`, set(api.VarConvfmt, num(0.5)), none, api.ErrConv, nil},
	})
}

// P25.1: NodeCat, NodeElem and NodeIn, by texts.
func TestTexts(t *testing.T) {
	format := func(s string) change { return set(api.VarConvfmt, str(s)) }
	holdLines(t, []line{
		{"x y", all(set(x, num(0.125)), set(y, strnum(1, " 1 "))), str("0.125 1 "), api.OK, nil},
		{"x y", all(set(x, num(3)), format("%d")), str("3"), api.OK, nil},
		{"x y", all(set(x, num(0.5)), format("%d")), none, api.ErrConv, nil},
		{"x y", all(set(y, num(0.5)), format("%d")), none, api.ErrConv, nil},
		{"x y", all(set(x, num(0.5)), set(y, num(-0.5)), format("<%.2f>")), str("<0.50><-0.50>"), api.OK, nil},
		{"x y z", all(set(x, pattern(api.NaN)), set(y, pattern(api.Inf|api.Sign)), set(z, minus0)), str("nan-inf0"), api.OK, nil},
		{"(-x) y", set(x, pattern(api.NaN)), str("-nan"), api.OK, nil},
		{"1e6 1e20 0.1234567", nil, str("10000001e+200.123457"), api.OK, nil},
		{"(2 ^ 62) (-(2 ^ 63))", nil, str("4611686018427387904-9.22337e+18"), api.OK, nil},
		{"$1 $2", nil, str("10abc"), api.OK, nil},
		{"a[x]", nil, none, api.OK, elem(0, "", none)},
		{"a[0.1 + 0.2]", nil, none, api.OK, elem(0, "0.3", none)},
		{"a[0.5]", format("%.3f"), none, api.OK, elem(0, "0.500", none)},
		{"a[0.5]", format("%d"), none, api.ErrConv, nil},
		{"a[3]", format("%d"), none, api.OK, elem(0, "3", none)},
		{"a[-x]", nil, none, api.OK, elem(0, "0", none)},
		{"a[$1]", elem(0, "10", strnum(7, "seven")), strnum(7, "seven"), api.OK, nil},
		{`b["k"]`, elem(1, "k", str("v")), str("v"), api.OK, nil},
		{`b["k"]`, elem(0, "k", str("v")), none, api.OK, elem(1, "k", none)},
		{"a[1, 2]", elem(0, "1\x1c2", num(3)), num(3), api.OK, nil},
		{`a[1, "", x]`, set(api.VarSubsep, str("<>")), none, api.OK, elem(0, "1<><>", none)},
		{"a[1, 2]", set(api.VarSubsep, str("")), none, api.OK, elem(0, "12", none)},
		{"a[1, 2]", set(api.VarSubsep, none), none, api.OK, elem(0, "12", none)},
		{"a[1, 2]", set(api.VarSubsep, num(0.5)), none, api.OK, elem(0, "10.52", none)},
		{"a[1, 2]", all(set(api.VarSubsep, num(0.5)), format("%.2f")), none, api.OK, elem(0, "10.502", none)},
		{"a[1, 2]", all(set(api.VarSubsep, num(0.5)), format("%d")), none, api.ErrConv, nil},
		{"a[1]", all(set(api.VarSubsep, num(0.5)), format("%d")), none, api.OK, elem(0, "1", none)},
		{"a[1, 0.5]", format("%d"), none, api.ErrConv, nil},
		{"(1 in a)", elem(0, "1", none), num(1), api.OK, nil},
		{"(1 in b)", elem(0, "1", none), num(0), api.OK, nil},
		{"(0.5 in a)", all(elem(0, "0.50", none), format("%.2f")), num(1), api.OK, nil},
		{"(0.5 in a)", format("%d"), none, api.ErrConv, nil},
		{"((1, 2) in a)", elem(0, "1\x1c2", none), num(1), api.OK, nil},
		{"((1, 2) in a)", elem(0, "12", none), num(0), api.OK, nil},
		{"((1, 2) in a)", all(set(api.VarSubsep, num(0.5)), format("%d")), none, api.ErrConv, nil},
	})
}

// P25.1: the functions that change nothing.
func TestFunctions(t *testing.T) {
	format := func(s string) change { return set(api.VarConvfmt, str(s)) }
	holdLines(t, []line{
		{"length(x)", nil, num(0), api.OK, nil},
		{"length", nil, num(6), api.OK, nil},
		{"length(x)", set(x, str("ä\x00\xff")), num(4), api.OK, nil},
		{"length(0.5)", format("%.9f"), num(11), api.OK, nil},
		{"length(0.5)", format("%d"), none, api.ErrConv, nil},
		{"substr(x, 2)", set(x, str("hello")), str("ello"), api.OK, nil},
		{"substr(x, 2, 3)", set(x, str("hello")), str("ell"), api.OK, nil},
		{"substr(x, 3, 2)", set(x, str("hello")), str("ll"), api.OK, nil},
		{"substr(x, -1, 3)", set(x, str("hello")), str("h"), api.OK, nil},
		{`substr(x, "1.5z", "1")`, set(x, str("hello")), str("e"), api.OK, nil},
		{"substr(x, y)", all(set(x, str("hello")), set(y, pattern(api.NaN))), str(""), api.OK, nil},
		{"substr(x, 1, y)", all(set(x, str("hello")), set(y, pattern(api.Inf))), str("hello"), api.OK, nil},
		{"substr(0.25, 2)", nil, str(".25"), api.OK, nil},
		{"substr(0.25, 1)", format("%d"), none, api.ErrConv, nil},
		{"substr(1, 0.6, 0.6)", format("%d"), str("1"), api.OK, nil},
		{"substr(1, 0.5, 0.6)", format("%d"), str(""), api.OK, nil},
		{`index("hello", "l")`, nil, num(3), api.OK, nil},
		{`index("l", "hello")`, nil, num(0), api.OK, nil},
		{`index("hello", x)`, nil, num(1), api.OK, nil},
		{"index(10.5, 0.5)", nil, num(2), api.OK, nil},
		{"index(10.5, .5 + 4)", nil, num(0), api.OK, nil},
		{"index(0.5, 5)", nil, num(3), api.OK, nil},
		{`index(0.5, "x")`, format("%d"), none, api.ErrConv, nil},
		{`index("x", 0.5)`, format("%d"), none, api.ErrConv, nil},
		{`toupper("aZz{0é")`, nil, str("AZZ{0é"), api.OK, nil},
		{`tolower("AzZ[0É")`, nil, str("azz[0É"), api.OK, nil},
		{"toupper(1e-9)", nil, str("1E-09"), api.OK, nil},
		{"tolower(1e-9)", format("%G"), str("1e-09"), api.OK, nil},
		{"toupper(x)", nil, str(""), api.OK, nil},
		{"toupper(0.5)", format("%d"), none, api.ErrConv, nil},
		{"tolower(0.5)", format("%d"), none, api.ErrConv, nil},
		{"int(0.5)", format("%d"), num(0), api.OK, nil},
		{"sqrt(-1)", format("%d"), pattern(api.NaN), api.OK, nil},
		{`sprintf("a%%b")`, nil, str("a%b"), api.OK, nil},
		{`sprintf("%s|%d|%c|%5.1f", 0.125, "7up", 65, "2.25")`, format("%.2f"), str("0.12|7|A|  2.2"), api.OK, nil},
		{`sprintf("%*d", 5, 42)`, nil, str("   42"), api.OK, nil},
		{`sprintf("%s", x)`, nil, str(""), api.OK, nil},
		{`sprintf("%s")`, nil, none, api.ErrFew, nil},
		{`sprintf("%s%s", 1)`, nil, none, api.ErrFew, nil},
		{`sprintf("%", 1)`, nil, none, api.ErrEnds, nil},
		{`sprintf("%y", 1)`, nil, none, api.ErrVerb, nil},
		{`sprintf("%5000d", 1)`, nil, none, api.ErrWide, nil},
		{`sprintf("%*d", 5000, 1)`, nil, none, api.ErrWide, nil},
		{`sprintf("%s", 0.5)`, format("%d"), none, api.ErrConv, nil},
		{`sprintf("x", 0.5)`, format("%d"), str("x"), api.OK, nil},
		{`sprintf("%d", 0.5)`, format("%d"), str("0"), api.OK, nil},
		{"sprintf(0.5, 7)", format("%d"), none, api.ErrConv, nil},
		{"sprintf(0.5, 7)", format("%%%.0f"), none, api.ErrEnds, nil},
		{"sprintf(0.5, 7)", format("<%g>%%d"), str("<0.5>7"), api.OK, nil},
	})
}

// P25.1: a sum is exact and rounded once, of however many.
func TestSum(t *testing.T) {
	holdLines(t, []line{
		{"sum(1e16, 1, -1e16)", nil, num(1), api.OK, nil},
		{`sum("1e16", "1x", -1e16, x, 0.5)`, nil, num(1.5), api.OK, nil},
		{"sum(0.1, 0.2, 0.3)", nil, num(0.6), api.OK, nil},
		{"sum(1e308, 1e308, -1e308)", nil, num(1e308), api.OK, nil},
		{"sum(1e999, -1e999)", nil, pattern(api.NaN), api.OK, nil},
		{"sum(x)", nil, num(0), api.OK, nil},
	})
	for _, count := range []int{1, 2, 3, 100, 1023, 1024, 5000, api.MaxNodes - 1} {
		var nodes []api.Node
		for i := range count {
			nodes = append(nodes, numNode([]float64{1e16, 1, -1e16, 2}[i%4])...)
		}
		nodes = append(nodes, api.Node{Kind: api.NodeCall, Op: api.FnSum, N: count})
		want := float64(3*(count/4)) + []float64{0, 1e16, 1e16, 1}[count%4]
		hold(t, "a long sum", api.Tree{Nodes: nodes}, begun(), num(want), api.OK, begun())
	}
}

// P25.1: split fills an array anew; the errors of its texts come ahead.
func TestSplit(t *testing.T) {
	old := all(elem(0, "1", num(1)), elem(0, "k", str("v")), elem(1, "1", str("other")))
	wiped := func(s *store.Store) { s.Wipe(0) }
	into := func(vals ...api.Value) change {
		return func(s *store.Store) {
			wiped(s)
			for i, v := range vals {
				s.SetElem(0, strconv.Itoa(i+1), v)
			}
		}
	}
	many := strings.Repeat("x ", last+1)
	words := slices.Repeat([]api.Value{str("x")}, last)
	words[last-1] = str("x x")
	bad := set(api.VarConvfmt, str("%d"))
	holdLines(t, []line{
		{`split("b 1  0x1\t-2e1 ", a, " ")`, old, num(4), api.OK, into(str("b"), strnum(1, "1"), str("0x1"), strnum(-20, "-2e1"))},
		{`split("", a, ",")`, old, num(0), api.OK, wiped},
		{`split(" ", a, " ")`, old, num(0), api.OK, wiped},
		{`split(x, a)`, old, num(0), api.OK, wiped},
		{`split("a,b,", a, ",")`, old, num(3), api.OK, into(str("a"), str("b"), str(""))},
		{`split("a12", a, "")`, nil, num(3), api.OK, into(str("a"), strnum(1, "1"), strnum(2, "2"))},
		{`split("a b", a)`, nil, num(2), api.OK, into(str("a"), str("b"))},
		{`split("a:b c", a)`, set(api.VarFs, str(":")), num(2), api.OK, into(str("a"), str("b c"))},
		{`split(1.25, a, 0.2)`, nil, num(1), api.OK, into(strnum(1.25, "1.25"))},
		{`split(10.25, a, 0.2)`, nil, num(2), api.OK, into(strnum(1, "1"), strnum(5, "5"))},
		{`split(1.25, a, ".")`, set(api.VarConvfmt, str("%.1f")), num(2), api.OK, into(strnum(1, "1"), strnum(2, "2"))},
		{`split(0.5, a, " ")`, all(old, bad), none, api.ErrConv, nil},
		{`split("x", a, 0.5)`, all(old, bad), none, api.ErrConv, nil},
		{`split(a[1] a["k"], a, "")`, old, num(2), api.OK, into(strnum(1, "1"), str("v"))},
		{`split(a["q"], a, "")`, old, num(0), api.OK, wiped},
		{`split("p q", a, a[3] = " ")`, nil, num(2), api.OK, into(str("p"), str("q"))},
		{`split("p q", b, " ") split("r", a, " ")`, nil, str("21"), api.OK, all(into(str("r")), elem(1, "1", str("p")), elem(1, "2", str("q")))},
		{`split(x, a)`, set(x, str(many)), num(last), api.OK, into(words...)},
	})
	big := made(set(x, str(many)))
	if _, e := walk.Eval(read(t, "split(x, a)"), big); e != api.OK {
		t.Errorf("split: error %d", e)
	}
	if v, _ := big.Elem(0, "32768"); v != str("x x") {
		t.Errorf("the last part is %s", brief(v))
	}
}

// P25.1: asort fills an array anew with its values in order, of like ones first that whose key comes first.
func TestAsort(t *testing.T) {
	mixed := all(elem(0, "z", num(2)), elem(0, "", str("a")), elem(0, "10", strnum(2, "2.0")), elem(0, "9", pattern(api.NaN)), elem(0, "k", none), elem(0, "b", str("10")), elem(0, "c", minus0), elem(1, "k", num(1)))
	sorted := []api.Value{minus0, none, strnum(2, "2.0"), num(2), pattern(api.NaN), str("10"), str("a")}
	behind := func(s *store.Store) {
		s.Wipe(0)
		for i, v := range sorted {
			s.SetElem(0, strconv.Itoa(i+1), v)
		}
	}
	holdLines(t, []line{
		{"asort(a)", mixed, num(7), api.OK, behind},
		{"asort(a) asort(a)", mixed, str("77"), api.OK, behind},
		{"asort(a)", nil, num(0), api.OK, nil},
		{"asort(b)", mixed, num(1), api.OK, func(s *store.Store) { s.Wipe(1); s.SetElem(1, "1", num(1)) }},
		{"(a[5] = 3) + asort(a)", elem(0, "7", num(2)), num(5), api.OK, func(s *store.Store) { s.Wipe(0); elem(0, "1", num(2))(s); elem(0, "2", num(3))(s) }},
	})
	const count = 2000
	s, want := begun(), begun()
	for i := range count {
		s.SetElem(0, strconv.Itoa(i), num(float64(count-i/2)))
		want.SetElem(0, strconv.Itoa(i+1), num(float64(count/2+1+i/2)))
	}
	hold(t, "asort of many", read(t, "asort(a)"), s, num(count), api.OK, want)
}
