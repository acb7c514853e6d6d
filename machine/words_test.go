package machine_test

import (
	"math"
	"strconv"
	"strings"
	"testing"

	"abacus/api"
	"abacus/machine"
	"abacus/remain"
	"abacus/store"
)

// samples: values of every kind, with the number that each counts as.
func samples() map[api.Value]float64 {
	list := map[api.Value]float64{
		none: 0, str(""): 0, str("x"): 0, str("3x"): 3, str(" -0"): math.Copysign(0, -1), str("0"): 0, str("1e999"): math.Inf(1), str("nan"): 0,
		strnum(10, " 10 "): 10, strnum(0, "0.0"): 0, strnum(2, "3"): 2, strnum(0, "7"): 0,
	}
	for _, f := range []float64{0, 1, 2, 3, 0.5, 0.1, 1.5, 7, 10, 1e16, 1e300, 5e-324, math.MaxFloat64, math.Inf(1), math.NaN()} {
		list[num(f)] = f
		list[num(-f)] = -f
	}
	return list
}

// figured: what an operator must make of two numbers, by the host's own arithmetic (but for powers).
func figured(op int, v float64, w float64) (api.Value, api.Errno) {
	switch op {
	case api.OpAdd:
		return num(v + w), api.OK
	case api.OpSub:
		return num(v - w), api.OK
	case api.OpMul:
		return num(v * w), api.OK
	case api.OpPow:
		d, e := remain.Pow(bits(v), bits(w))
		if e != api.OK {
			return none, e
		}
		return pattern(d), api.OK
	}
	if w == 0 {
		return none, api.ErrDivide
	}
	if op == api.OpDiv {
		return num(v / w), api.OK
	}
	return num(math.Mod(v, w)), api.OK
}

// answer: what a code answers with these values in x and y.
func answer(t *testing.T, c api.Code, v api.Value, w api.Value) (api.Value, api.Errno) {
	t.Helper()
	got, steps, e := machine.Run(c, made(set(x, v), set(y, w)))
	if e == api.OK && steps != len(c.Ops) || e != api.OK && steps != 0 {
		t.Errorf("%s: %d steps, error %d", brief(c), steps, e)
	}
	return got, e
}

// P27.1: bin, all operators over all pairs of values; opvar, opfield and opelem make the same number, write it and put it.
func TestArithmetic(t *testing.T) {
	for _, mark := range strings.Fields("+ - * / % ^") {
		plain := read(t, "var x; var y; bin "+mark)
		inVar, inField, inElem := read(t, "var y; opvar z "+mark), read(t, "num 1; var y; opfield "+mark), read(t, "num 1; var y; opelem b "+mark)
		faults := 0
		for v, f := range samples() {
			for w, g := range samples() {
				want, e := figured(fields[mark], f, g)
				if got, fault := answer(t, plain, v, w); got != want || fault != e {
					t.Fatalf("%s %s %s = %s, error %d; want %s, %d", brief(v), mark, brief(w), brief(got), fault, brief(want), e)
				}
				behind := want
				if e != api.OK {
					faults++
					behind = v // stays
				}
				s := made(set(y, w), set(z, v), field(1, v), elem(1, "1", v))
				for _, c := range []api.Code{inVar, inField, inElem} {
					if got, _, fault := machine.Run(c, s); got != want || fault != e {
						t.Fatalf("%s %s= %s: %s, error %d; want %s, %d", brief(v), mark, brief(w), brief(got), fault, brief(want), e)
					}
				}
				inZ, _ := s.Var(z)
				in1, _ := s.Field(1)
				inB, _ := s.Elem(1, "1")
				if inZ != behind || in1 != behind || inB != behind {
					t.Fatalf("behind %s %s= %s: %s, %s, %s; want %s", brief(v), mark, brief(w), brief(inZ), brief(in1), brief(inB), brief(behind))
				}
			}
		}
		if (faults > 0) != (fields[mark] >= api.OpDiv) {
			t.Errorf("%s: %d errors", mark, faults)
		}
	}
}

// P27.1: neg, pos, not, truth, the functions of one number and the steps, over all values.
func TestUnary(t *testing.T) {
	for v, f := range samples() {
		truth := v.Str != ""
		if v.Kind != api.KindStr {
			truth = f != 0
		}
		yes, no := num(0), num(1)
		if truth {
			yes, no = num(1), num(0)
		}
		for text, want := range map[string]api.Value{
			"var x; pos": num(f), "var x; neg": pattern(bits(f) ^ api.Sign), "var x; not": no, "var x; truth": yes, "var x; not; not": yes,
			"var x; call int 1": num(math.Trunc(f)), "var x; call sqrt 1": num(math.Sqrt(f)),
			"stepvar x v++": num(f), "stepvar x v--": num(f), "stepvar x ++v": num(f + 1), "stepvar x --v": num(f - 1),
			"num 1; stepfield v++": num(f), "num 1; stepfield v--": num(f), "num 1; stepfield ++v": num(f + 1), "num 1; stepfield --v": num(f - 1),
			`str "k"; stepelem a v++`: num(f), `str "k"; stepelem a v--`: num(f), `str "k"; stepelem a ++v`: num(f + 1), `str "k"; stepelem a --v`: num(f - 1),
		} {
			after := num(f + 1)
			if strings.Contains(text, "--") {
				after = num(f - 1)
			}
			change := change(nil)
			switch {
			case strings.Contains(text, "stepvar"):
				change = set(x, after)
			case strings.Contains(text, "stepfield"):
				change = field(1, after)
			case strings.Contains(text, "stepelem"):
				change = elem(0, "k", after)
			}
			holdLines(t, []line{{text, all(set(x, v), field(1, v), elem(0, "k", v)), want, api.OK, change}})
		}
	}
	strange := pattern(api.NaN | api.Sign | 5)
	holdLines(t, []line{
		{"stepvar x v++", set(x, strange), strange, api.OK, set(x, pattern(api.NaN))},
		{"var x; pos", set(x, strange), strange, api.OK, nil},
		{"var x; neg", set(x, strange), pattern(api.NaN | 5), api.OK, nil},
		{"stepvar x ++v", set(x, num(1<<53)), num(1 << 53), api.OK, nil},
		{"num 1; call sqrt 1; neg; call sqrt 1", nil, pattern(api.NaN), api.OK, nil},
	})
}

// P27.1: rel, all relations over all pairs of values: by number where neither is a string, else by text.
func TestRelations(t *testing.T) {
	text := func(v api.Value, f float64) string {
		if v.Kind != api.KindNum {
			return v.Str
		}
		if f == math.Trunc(f) && math.Abs(f) < 1<<63 {
			return strconv.FormatFloat(f+0, 'f', 0, 64) // +0 for a zero of either sign
		}
		return strings.ToLower(strings.TrimPrefix(strconv.FormatFloat(f, 'g', 6, 64), "+"))
	}
	for v, f := range samples() {
		for w, g := range samples() {
			holds := []bool{f < g, f <= g, f == g, f != g, f > g, f >= g}
			if v.Kind == api.KindStr || w.Kind == api.KindStr {
				c := strings.Compare(text(v, f), text(w, g))
				holds = []bool{c < 0, c <= 0, c == 0, c != 0, c > 0, c >= 0}
			}
			for i, mark := range []string{"<", "<=", "==", "!=", ">", ">="} {
				want := num(0)
				if holds[i] {
					want = num(1)
				}
				if got, e := answer(t, read(t, "var x; var y; rel "+mark), v, w); got != want || e != api.OK {
					t.Fatalf("%s %s %s: %s, error %d; want %s", brief(v), mark, brief(w), brief(got), e, brief(want))
				}
			}
		}
	}
	bad := format("%d")
	holdLines(t, []line{
		{`num 0.5; str "x"; rel <`, bad, none, api.ErrConv, nil},
		{`str "x"; num 0.5; rel ==`, bad, none, api.ErrConv, nil},
		{`num 5; str "x"; rel <`, bad, num(1), api.OK, nil},
		{`num 0.5; var x; rel <`, bad, num(0), api.OK, nil},
		{`num 0.5; str "0.50"; rel ==`, format("%.2f"), num(1), api.OK, nil},
		{`num 0.5; str "x"; rel ==`, format(row(most) + "%g"), none, api.ErrLong, nil},
		{`num 0.5; str "x"; rel ==`, set(api.VarConvfmt, none), none, api.ErrConv, nil},
	})
}

// P27.1: cat, key, elem and in, by texts.
func TestTexts(t *testing.T) {
	bad, zero := format("%d"), set(api.VarSubsep, num(0.5))
	holdLines(t, []line{
		{"var x; var y; cat", all(set(x, num(0.125)), set(y, strnum(1, " 1 "))), str("0.125 1 "), api.OK, nil},
		{"var x; var y; cat", bad, str(""), api.OK, nil},
		{"num 3; num 4; cat", bad, str("34"), api.OK, nil},
		{"num 0.5; num 3; cat", bad, none, api.ErrConv, nil},
		{"num 3; num 0.5; cat", bad, none, api.ErrConv, nil},
		{"num 0.5; num -0.5; cat", format("<%.2f>"), str("<0.50><-0.50>"), api.OK, nil},
		{"num 1; field; num 2; field; cat", nil, str("10abc"), api.OK, nil},
		{"var x; key 1", nil, str(""), api.OK, nil},
		{"num 0.5; key 1", format("%.3f"), str("0.500"), api.OK, nil},
		{"num 0.5; key 1", bad, none, api.ErrConv, nil},
		{"num 3; key 1", all(bad, zero), str("3"), api.OK, nil},
		{"num 1; field; key 1", nil, str("10"), api.OK, nil},
		{"num 1; num 2; key 2", nil, str("1\x1c2"), api.OK, nil},
		{`num 1; str ""; var x; key 3`, set(api.VarSubsep, str("<>")), str("1<><>"), api.OK, nil},
		{"num 1; num 2; key 2", set(api.VarSubsep, str("")), str("12"), api.OK, nil},
		{"num 1; num 2; key 2", set(api.VarSubsep, none), str("12"), api.OK, nil},
		{"num 1; num 2; key 2", all(zero, format("%.2f")), str("10.502"), api.OK, nil},
		{"num 1; num 2; key 2", all(zero, bad), none, api.ErrConv, nil},
		{"num 1; num 0.5; key 2", bad, none, api.ErrConv, nil},
		{"num 0.5; num 1; key 2", bad, none, api.ErrConv, nil},
		{"var x; elem a", nil, none, api.OK, elem(0, "", none)},
		{"num 0.5; elem a", format("%.3f"), none, api.OK, elem(0, "0.500", none)},
		{"num 0.5; elem a", bad, none, api.ErrConv, nil},
		{"num 3; elem a", bad, none, api.OK, elem(0, "3", none)},
		{"num 1; field; elem a", elem(0, "10", strnum(7, "seven")), strnum(7, "seven"), api.OK, nil},
		{`str "k"; elem b`, elem(0, "k", str("v")), none, api.OK, elem(1, "k", none)},
		{"num 1; in a", elem(0, "1", none), num(1), api.OK, nil},
		{"num 1; in b", elem(0, "1", none), num(0), api.OK, nil},
		{"num 0.5; in a", all(elem(0, "0.50", none), format("%.2f")), num(1), api.OK, nil},
		{"num 0.5; in a", bad, none, api.ErrConv, nil},
		{"num 1; num 2; key 2; in a", elem(0, "1\x1c2", none), num(1), api.OK, nil},
	})
}

// P27.1: a field's number is cut, and must be from 0 to MaxFields, where it is read and where it is written.
func TestFields(t *testing.T) {
	for _, l := range []struct {
		i     api.Value
		place int // -1: none
	}{
		{num(0), 0}, {minus0, 0}, {num(0.99), 0}, {num(-0.99), 0}, {num(5e-324), 0}, {none, 0}, {str("x"), 0}, {str(""), 0}, {strnum(0, "1"), 0},
		{num(1), 1}, {num(1.99), 1}, {str("1x"), 1}, {str(" 1e0"), 1}, {strnum(1, "2"), 1}, {num(2.5), 2}, {num(3), 3}, {num(last), last}, {num(last + 0.99), last},
		{num(-1), -1}, {num(-1.5), -1}, {num(last + 1), -1}, {num(1e300), -1}, {str("-1"), -1}, {str("1e999"), -1}, {strnum(-1, "1"), -1},
		{num(1 << 32), -1}, {num(1<<32 + 1), -1}, {num(-1 << 32), -1}, {num(math.Ldexp(1, 63)), -1}, {num(math.Ldexp(1, 64)), -1},
		{pattern(api.NaN), -1}, {pattern(api.NaN | api.Sign), -1}, {pattern(api.Inf), -1}, {pattern(api.Inf | api.Sign), -1},
	} {
		ahead := set(x, l.i)
		if l.place < 0 {
			for _, text := range []string{"var x; field", "var x; num 5; setfield", "var x; num 5; opfield +", "var x; num 0; opfield /", "var x; stepfield v++", "var x; stepfield --v", `str "q"; str "5"; var x; subfield sub`, `str ""; str "5"; var x; subfield gsub`} {
				holdLines(t, []line{{text, ahead, none, api.ErrField, nil}})
			}
			continue
		}
		old, _ := begun().Field(l.place)
		text, n := old.Str, 0.0
		if l.place < 2 {
			n = 10
		}
		holdLines(t, []line{
			{"var x; field", ahead, old, api.OK, nil},
			{`var x; str "p q"; setfield`, ahead, str("p q"), api.OK, field(l.place, str("p q"))},
			{"var x; num 5; opfield +", ahead, num(n + 5), api.OK, field(l.place, num(n+5))},
			{"var x; num 0; opfield /", ahead, none, api.ErrDivide, nil},
			{"var x; num 0.5; opfield ^", ahead, none, api.ErrPower, nil},
			{"var x; stepfield v++", ahead, num(n), api.OK, field(l.place, num(n+1))},
			{"var x; stepfield --v", ahead, num(n - 1), api.OK, field(l.place, num(n-1))},
			{`str ""; str "5"; var x; subfield sub`, ahead, num(1), api.OK, field(l.place, str("5"+text))},
			{`str "q"; str "5"; var x; subfield gsub`, ahead, num(0), api.OK, nil},
		})
	}
}

// P27.1: call, of every function that it may name.
func TestCalls(t *testing.T) {
	bad := format("%d")
	holdLines(t, []line{
		{"var x; call length 1", nil, num(0), api.OK, nil},
		{"var x; call length 1", set(x, str("ä\x00\xff")), num(4), api.OK, nil},
		{"num 0.5; call length 1", format("%.9f"), num(11), api.OK, nil},
		{"num 0.5; call length 1", bad, none, api.ErrConv, nil},
		{`str "hello"; num 2; call substr 2`, nil, str("ello"), api.OK, nil},
		{`str "hello"; num 2; num 3; call substr 3`, nil, str("ell"), api.OK, nil},
		{`str "hello"; str "1.5z"; str "1"; call substr 3`, nil, str("e"), api.OK, nil},
		{`str "hello"; num nan; call substr 2`, nil, str(""), api.OK, nil},
		{`str "hello"; num 1; num inf; call substr 3`, nil, str("hello"), api.OK, nil},
		{"num 0.25; num 2; call substr 2", nil, str(".25"), api.OK, nil},
		{"num 0.25; num 1; call substr 2", bad, none, api.ErrConv, nil},
		{"num 1; num 0.6; num 0.6; call substr 3", bad, str("1"), api.OK, nil},
		{`str "hello"; str "l"; call index 2`, nil, num(3), api.OK, nil},
		{`str "l"; str "hello"; call index 2`, nil, num(0), api.OK, nil},
		{`str "hello"; var x; call index 2`, nil, num(1), api.OK, nil},
		{"num 10.5; num 0.5; call index 2", nil, num(2), api.OK, nil},
		{`num 0.5; str "x"; call index 2`, bad, none, api.ErrConv, nil},
		{`str "x"; num 0.5; call index 2`, bad, none, api.ErrConv, nil},
		{`str "aZz{0é"; call toupper 1`, nil, str("AZZ{0é"), api.OK, nil},
		{`str "AzZ[0É"; call tolower 1`, nil, str("azz[0É"), api.OK, nil},
		{"num 1e-9; call toupper 1", nil, str("1E-09"), api.OK, nil},
		{"num 1e-9; call tolower 1", format("%G"), str("1e-09"), api.OK, nil},
		{"num 0.5; call toupper 1", bad, none, api.ErrConv, nil},
		{"num 0.5; call tolower 1", bad, none, api.ErrConv, nil},
		{"num 0.5; call int 1", bad, num(0), api.OK, nil},
		{"num -1; call sqrt 1", bad, pattern(api.NaN), api.OK, nil},
		{`str "a%%b"; call sprintf 1`, nil, str("a%b"), api.OK, nil},
		{`str "%s|%d|%c|%5.1f"; num 0.125; str "7up"; num 65; str "2.25"; call sprintf 5`, format("%.2f"), str("0.12|7|A|  2.2"), api.OK, nil},
		{`str "%*d"; num 5; num 42; call sprintf 3`, nil, str("   42"), api.OK, nil},
		{`str "%s"; var x; call sprintf 2`, nil, str(""), api.OK, nil},
		{`str "%s"; call sprintf 1`, nil, none, api.ErrFew, nil},
		{`str "%"; num 1; call sprintf 2`, nil, none, api.ErrEnds, nil},
		{`str "%y"; num 1; call sprintf 2`, nil, none, api.ErrVerb, nil},
		{`str "%*d"; num 5000; num 1; call sprintf 3`, nil, none, api.ErrWide, nil},
		{`str "%s"; num 0.5; call sprintf 2`, bad, none, api.ErrConv, nil},
		{`str "x"; num 0.5; call sprintf 2`, bad, str("x"), api.OK, nil},
		{"num 0.5; num 7; call sprintf 2", bad, none, api.ErrConv, nil},
		{"num 0.5; num 7; call sprintf 2", format("<%g>%%d"), str("<0.5>7"), api.OK, nil},
		{"num 1e16; num 1; num -1e16; call sum 3", nil, num(1), api.OK, nil},
		{`str "1e16"; str "1x"; num -1e16; var x; num 0.5; call sum 5`, nil, num(1.5), api.OK, nil},
		{"num inf; num -inf; call sum 2", nil, pattern(api.NaN), api.OK, nil},
		{"var x; call sum 1", nil, num(0), api.OK, nil},
	})
}

// fill: array a holds these values alone, at the keys 1, 2 and on.
func fill(a int, vals ...api.Value) change {
	return func(s *store.Store) {
		s.Wipe(a)
		for i, v := range vals {
			s.SetElem(a, strconv.Itoa(i+1), v)
		}
	}
}

// P27.1: split and asort fill an array anew; the errors of split's texts come ahead.
func TestArrays(t *testing.T) {
	bad := format("%d")
	old := all(elem(0, "1", num(1)), elem(0, "k", str("v")), elem(1, "1", str("other")))
	mixed := all(elem(0, "z", num(2)), elem(0, "", str("a")), elem(0, "10", strnum(2, "2.0")), elem(0, "9", pattern(api.NaN)), elem(0, "k", none), elem(0, "b", str("10")), elem(0, "c", minus0), elem(1, "k", num(1)))
	sorted := fill(0, minus0, none, strnum(2, "2.0"), num(2), pattern(api.NaN), str("10"), str("a"))
	holdLines(t, []line{
		{`str "b 1  0x1\t-2e1 "; str " "; split a`, old, num(4), api.OK, fill(0, str("b"), strnum(1, "1"), str("0x1"), strnum(-20, "-2e1"))},
		{`str ""; str ","; split a`, old, num(0), api.OK, fill(0)},
		{`str "a,b,"; str ","; split b`, old, num(3), api.OK, fill(1, str("a"), str("b"), str(""))},
		{`str "a12"; var x; split a`, nil, num(3), api.OK, fill(0, str("a"), strnum(1, "1"), strnum(2, "2"))},
		{"num 10.25; num 0.2; split a", nil, num(2), api.OK, fill(0, strnum(1, "1"), strnum(5, "5"))},
		{`num 0.5; str " "; split a`, all(old, bad), none, api.ErrConv, nil},
		{`str "x"; num 0.5; split a`, all(old, bad), none, api.ErrConv, nil},
		{"asort a", mixed, num(7), api.OK, sorted},
		{"asort a; pop; asort a", mixed, num(7), api.OK, sorted},
		{"asort b", mixed, num(1), api.OK, fill(1, num(1))},
		{"asort a", nil, num(0), api.OK, nil},
	})
}
