package lower_test

import (
	"fmt"
	"testing"

	"abacus/api"
	"abacus/store"
)

// noted: a kid that puts its mark behind the text of variable x, and has this value.
func noted(mark string, v []api.Node) []api.Node {
	note := let(x, over(api.Node{Kind: api.NodeCat}, varNode(x), strNode(mark)))
	// What was noted is always true, since it isn't empty.
	return over(api.Node{Kind: api.NodeCond}, note, v, strNode("never"))
}

// elemOf: the element of array a whose subscript notes a mark.
func elemOf(mark string) []api.Node {
	return over(api.Node{Kind: api.NodeElem}, noted(mark, strNode(mark)))
}

// noting: a node over kids that note their marks, and the marks that must be noted.
type noting struct {
	node api.Node
	kids [][]api.Node
	want string
}

// notings: of every kind of node.
func notings() []noting {
	kid := func(mark string) []api.Node { return noted(mark, numNode(1)) }
	zero := func(mark string) []api.Node { return noted(mark, numNode(0)) }
	one, two, three := [][]api.Node{kid("1")}, [][]api.Node{kid("1"), kid("2")}, [][]api.Node{kid("1"), kid("2"), kid("3")}
	target, twoTarget := [][]api.Node{elemOf("1"), kid("2")}, [][]api.Node{kid("1"), kid("2"), elemOf("3")}
	rows := []noting{
		{api.Node{Kind: api.NodeField}, one, "1"}, {api.Node{Kind: api.NodeElem}, one, "1"}, {api.Node{Kind: api.NodeElem}, three, "123"}, {api.Node{Kind: api.NodeIn}, one, "1"}, {api.Node{Kind: api.NodeIn}, three, "123"},
		{api.Node{Kind: api.NodeNeg}, one, "1"}, {api.Node{Kind: api.NodePos}, one, "1"}, {api.Node{Kind: api.NodeNot}, one, "1"}, {api.Node{Kind: api.NodeCat}, two, "12"},
		{api.Node{Kind: api.NodeAnd}, two, "12"}, {api.Node{Kind: api.NodeAnd}, [][]api.Node{zero("1"), kid("2")}, "1"}, {api.Node{Kind: api.NodeOr}, two, "1"}, {api.Node{Kind: api.NodeOr}, [][]api.Node{zero("1"), kid("2")}, "12"},
		{api.Node{Kind: api.NodeCond}, three, "12"}, {api.Node{Kind: api.NodeCond}, [][]api.Node{zero("1"), kid("2"), kid("3")}, "13"},
		{api.Node{Kind: api.NodeAssign}, target, "12"}, {api.Node{Kind: api.NodeCall, Op: api.FnLength}, one, "1"},
		{api.Node{Kind: api.NodeCall, Op: api.FnSubstr}, two, "12"}, {api.Node{Kind: api.NodeCall, Op: api.FnSubstr}, three, "123"}, {api.Node{Kind: api.NodeCall, Op: api.FnIndex}, two, "12"},
		{api.Node{Kind: api.NodeCall, Op: api.FnSprintf}, one, "1"}, {api.Node{Kind: api.NodeCall, Op: api.FnSprintf}, three, "123"}, {api.Node{Kind: api.NodeCall, Op: api.FnSplit, Ref: 1}, two, "12"},
		{api.Node{Kind: api.NodeCall, Op: api.FnInt}, one, "1"}, {api.Node{Kind: api.NodeCall, Op: api.FnSqrt}, one, "1"}, {api.Node{Kind: api.NodeCall, Op: api.FnToupper}, one, "1"}, {api.Node{Kind: api.NodeCall, Op: api.FnTolower}, one, "1"},
		{api.Node{Kind: api.NodeCall, Op: api.FnSub}, twoTarget, "123"}, {api.Node{Kind: api.NodeCall, Op: api.FnGsub}, twoTarget, "123"}, {api.Node{Kind: api.NodeCall, Op: api.FnSum}, three, "123"},
	}
	for op := api.OpAdd; op <= api.OpPow; op++ {
		rows = append(rows, noting{api.Node{Kind: api.NodeBin, Op: op}, two, "12"}, noting{api.Node{Kind: api.NodeOpSet, Op: op}, target, "12"}, noting{api.Node{Kind: api.NodeRel, Op: op}, two, "12"})
	}
	for op := api.IncBefore; op <= api.DecAfter; op++ {
		rows = append(rows, noting{api.Node{Kind: api.NodeStep, Op: op}, target[:1], "1"})
	}
	return rows
}

// P28.2, P28.4: the kids of every kind of node come from the first to the last, each once; of && || ?: those that tell. Each kid's error is the last thing that happens.
func TestKidsInOrder(t *testing.T) {
	for _, r := range notings() {
		e := api.Tree{Nodes: over(r.node, r.kids...)}
		if got := holdWalk(t, r.node, e, begun().Dump()); got.e != api.OK {
			t.Errorf("%+v: error %d", r.node, got.e)
		}
		// What was noted is x's value, which is asked for behind the node.
		behind := over(api.Node{Kind: api.NodeCond}, over(api.Node{Kind: api.NodeOr}, over(r.node, r.kids...), numNode(1)), varNode(x), strNode("never"))
		if got := holdWalk(t, r.node, api.Tree{Nodes: behind}, begun().Dump()); got != (answer{str(r.want), api.OK}) {
			t.Errorf("%+v: noted %s, want %s", r.node, brief(got), r.want)
		}
		for i := range r.want {
			broken := make([][]api.Node, len(r.kids))
			copy(broken, r.kids)
			which := r.want[i] - '1'
			fault := over(api.Node{Kind: api.NodeBin, Op: api.OpDiv}, numNode(1), numNode(0))
			broken[which] = fault
			if kids := r.kids[which]; kids[len(kids)-1].Kind == api.NodeElem {
				broken[which] = over(api.Node{Kind: api.NodeElem}, fault)
			}
			ahead := func(s *store.Store) {
				if i > 0 {
					s.SetVar(x, str(r.want[:i]))
				}
			}
			hold(t, fmt.Sprintf("%+v with a fault in kid %d", r.node, which+1), api.Tree{Nodes: over(r.node, broken...)}, begun().Dump(), answer{none, api.ErrDivide}, made(ahead).Dump())
		}
	}
}

// P28.2: a kid's value is what it was when it was come to; conversions are made behind all kids.
func TestValuesAndConversions(t *testing.T) {
	holdLines(t, []line{
		{"$1 ($1 = 5) $1", nil, str("1055"), api.OK, field(1, num(5))},
		{`$0 ($0 = "p") $0`, nil, str("10 abcpp"), api.OK, field(0, str("p"))},
		{"NF (NF = 1) NF", nil, str("211"), api.OK, set(api.VarNf, num(1))},
		{"a[1] (a[1] = 2) a[1]", nil, str("22"), api.OK, elem(0, "1", num(2))},
		{"x - x++", set(x, num(5)), num(0), api.OK, set(x, num(6))},
		{"x++ < x", set(x, num(5)), num(1), api.OK, set(x, num(6))},
		{"sum(x, x++, x, ++x, x)", set(x, num(1)), num(10), api.OK, set(x, num(3))},
		{`sprintf("%s%s%s", x, x = "b", x)`, set(x, str("a")), str("abb"), api.OK, set(x, str("b"))},
		{`(x ? x = 0 : 5) x`, set(x, num(3)), str("00"), api.OK, set(x, num(0))},
		{`0.5 (CONVFMT = "%.2f")`, nil, str("0.50%.2f"), api.OK, format("%.2f")},
		{`0.5 (CONVFMT = 7) 0.25`, nil, none, api.ErrConv, set(api.VarConvfmt, num(7))},
		{`0.5 ""  (CONVFMT = "%.2f")`, nil, str("0.5%.2f"), api.OK, format("%.2f")},
		{`0.5 < (CONVFMT = "0.5")`, nil, none, api.ErrConv, format("0.5")},
		{`index(0.5, (CONVFMT = "%.2f") ? "50" : "")`, nil, num(3), api.OK, format("%.2f")},
		{`sprintf(0.5, CONVFMT = "%%d<%.2f>")`, nil, str("0<0.50>"), api.OK, format("%%d<%.2f>")},
		{`substr(0.5, 2, (CONVFMT = "%.3f") ? 9 : 0)`, nil, str(".500"), api.OK, format("%.3f")},
		{`split(0.5, a, (CONVFMT = "%.3f") ? "." : "")`, nil, num(2), api.OK, all(format("%.3f"), elem(0, "1", strnum(0, "0")), elem(0, "2", strnum(500, "500")))},
		{`a[0.5, CONVFMT = "%.2f"]`, nil, none, api.OK, all(format("%.2f"), elem(0, "0.50\x1c%.2f", none))},
		{`a[1, SUBSEP = "-"]`, nil, none, api.OK, all(set(api.VarSubsep, str("-")), elem(0, "1--", none))},
		{`((0.5, CONVFMT = "%.2f") in a)`, elem(0, "0.50\x1c%.2f", none), num(1), api.OK, format("%.2f")},
		{`(a[1] in a)`, nil, num(0), api.OK, elem(0, "1", none)},
		{`x y`, all(set(x, num(0.5)), set(api.VarConvfmt, num(1))), none, api.ErrConv, nil},
		{`a[0.5] a[CONVFMT = "%.2f"] a[0.5]`, elem(0, "0.5", str("p")), str("p"), api.OK, all(format("%.2f"), elem(0, "%.2f", none), elem(0, "0.50", none))},
	})
}

// P28.2: an element's key is made where its target stands; a field's number when it is read or written.
func TestTargets(t *testing.T) {
	bad := format("%d")
	holdLines(t, []line{
		{`a[0.5] = CONVFMT = "%.2f"`, nil, str("%.2f"), api.OK, all(format("%.2f"), elem(0, "0.5", str("%.2f")))},
		{`a[0.5] += CONVFMT = "%.2f"`, nil, num(0), api.OK, all(format("%.2f"), elem(0, "0.5", num(0)))},
		{`a[1, 2] = SUBSEP = "-"`, nil, str("-"), api.OK, all(set(api.VarSubsep, str("-")), elem(0, "1\x1c2", str("-")))},
		{`a[x] = x = 2`, set(x, num(1)), num(2), api.OK, all(set(x, num(2)), elem(0, "1", num(2)))},
		{`a[x++] = x++`, nil, num(1), api.OK, all(set(x, num(2)), elem(0, "0", num(1)))},
		{`a[x++] += x++`, nil, num(1), api.OK, all(set(x, num(2)), elem(0, "0", num(1)))},
		{`a[x++]++ x`, nil, str("01"), api.OK, all(set(x, num(1)), elem(0, "0", num(1)))},
		{`a[0.5] = x = 1`, bad, none, api.ErrConv, nil},
		{`a[0.5] += x = 1`, bad, none, api.ErrConv, nil},
		{`++a[0.5]`, bad, none, api.ErrConv, nil},
		{`a[1, 2] = x = 1`, all(bad, set(api.VarSubsep, num(0.5))), none, api.ErrConv, nil},
		{`$x = x = 2`, set(x, num(1)), num(2), api.OK, all(set(x, num(2)), field(1, num(2)))},
		{`$x++ x`, set(x, num(1)), str("101"), api.OK, field(1, num(11))},
		{`$(x++)++ x`, set(x, num(1)), str("102"), api.OK, all(set(x, num(2)), field(1, num(11)))},
		{`$NF = NF = 1`, nil, num(1), api.OK, all(set(api.VarNf, num(1)), field(2, num(1)))},
		{`$(-1) = x = 1`, nil, none, api.ErrField, set(x, num(1))},
		{`$(-1) = 1 / 0`, nil, none, api.ErrDivide, nil},
		{`$(-1) += x = 1`, nil, none, api.ErrField, set(x, num(1))},
		{`$(-1) += 2 ^ 0.5`, nil, none, api.ErrPower, nil},
		{`$(-1) /= 0`, nil, none, api.ErrField, nil},
		{`--$(2 ^ 63)`, nil, none, api.ErrField, nil},
		{`sub("q", "r", $(-1))`, nil, none, api.ErrField, nil},
		{`sub(0.5, "r", $(-1))`, bad, none, api.ErrConv, nil},
		{`sub("q", 0.5, $(-1))`, bad, none, api.ErrConv, nil},
		{`gsub(x = "q", y = "r", $(-1))`, nil, none, api.ErrField, all(set(x, str("q")), set(y, str("r")))},
		{`sub("q", 0.5, a[1])`, bad, none, api.ErrConv, nil},
		{`sub(0.5, "q", a[0.5])`, bad, none, api.ErrConv, nil},
		{`sub("0", CONVFMT = "%.2f", a[0.5])`, elem(0, "0.50", str("0a0")), num(1), api.OK, all(format("%.2f"), elem(0, "0.50", str("%.2fa0")))},
		{`gsub(0.5, CONVFMT = "%.2f", x)`, set(x, num(0.5)), num(1), api.OK, all(format("%.2f"), set(x, str("%.2f")))},
		{`sub("a", "b", a[CONVFMT = "%.2f"])`, elem(0, "%.2f", num(0.5)), num(0), api.OK, format("%.2f")},
		{`sub(0.5, 1, a[CONVFMT = "%.2f"])`, elem(0, "%.2f", str("x0.50x")), num(1), api.OK, all(format("%.2f"), elem(0, "%.2f", str("x1x")))},
	})
}

// P28.2: of an element that is sought and of one that replaces, the key's fault comes ahead of those of the texts: the key is made where its target stands.
func TestFaultOfAKey(t *testing.T) {
	long := format(row(most-3) + "%.1f") // 0.5 is written with MaxText bytes, -0.5 with one more
	holdLines(t, []line{
		{`sub(-0.5, CONVFMT = "%d", a[0.25])`, long, none, api.ErrConv, format("%d")},
		{`sub(x, "", a[-0.5])`, all(long, set(x, num(-0.5))), none, api.ErrLong, nil},
		{`a[-0.5] = CONVFMT = "%d"`, long, none, api.ErrLong, nil},
		{`(a[0.5] = CONVFMT = "%d") a[0.5]`, nil, none, api.ErrConv, all(format("%d"), elem(0, "0.5", str("%d")))},
	})
}

// P28.2: what is done to each kind of target, by each operator, step and function, over targets of every kind of value.
func TestEveryChange(t *testing.T) {
	values := []api.Value{none, num(7), num(-0.5), num(0), str("ab a"), str("3x"), strnum(12, " 12 ")}
	var texts []string
	for _, target := range []string{"x", "$1", "$3", "$0", "a[1]", "a[1, x]", "NF", "CONVFMT", "SUBSEP"} {
		for _, form := range []string{"%s = y", "%s += y", "%s -= y", "%s *= y", "%s /= y", "%s %%= y", "%s ^= y", "++%s", "--%s", "%s++", "%s--", `sub("a", y, %s)`, `gsub("a", y, %s)`, `gsub("", y, %s)`, "%s"} {
			texts = append(texts, fmt.Sprintf(form, target))
		}
	}
	for _, text := range texts {
		e := read(t, text)
		for _, v := range values {
			for _, w := range values {
				ahead := all(set(x, v), field(1, v), elem(0, "1", v), set(y, w))
				holdWalk(t, []any{text, v, w}, e, made(ahead).Dump())
			}
		}
	}
}

// P28.2: && || ?: by values of every kind, nested in each other, over what changes and what fails.
func TestBranches(t *testing.T) {
	values := []api.Value{none, num(7), num(0), minus0, pattern(api.NaN), str(""), str("0"), strnum(0, "0"), strnum(1, "1")}
	for _, text := range []string{
		"x && y", "x || y", "x ? y : 5", "x && y && z++", "x || y || z++", "x && (y || z++)", "(x && y) || z++", "(x || y) && z++", "x ? y ? z++ : z-- : --z", "(x ? y : z) ? z++ : z--", "x ? z = 1 : (z = 2)",
		"x && 1 / 0", "x || 1 / 0", "x ? 1 / 0 : y", "x ? y : 1 / 0", "!(x && y) + !(x || y)", "(x && y) + (x || y) * (x ? 2 : 3)", "a[x && y] = x || y", "$(x && y)++", "sum(x && y, x || y, x ? y : z, z)", "a[x ? 1 : 2, y ? 3 : 4]", "(x ? $0 : $1) (y ? $1 : $2)",
		"(x && y) (x || y)", "x && x", "(x = y) && x", "(x = y) || z++", "length(x ? y : z)", "sub(x ? \"a\" : \"b\", y ? \"c\" : \"\")", "x && y ? y && z : z || x",
	} {
		e := read(t, text)
		for _, v := range values {
			for _, w := range values {
				holdWalk(t, []any{text, v, w}, e, made(set(x, v), set(y, w), set(z, num(2))).Dump())
			}
		}
	}
}
