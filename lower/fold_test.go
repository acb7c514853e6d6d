package lower_test

import (
	"fmt"
	"math"
	"slices"
	"testing"

	"abacus/api"
)

// foldLine: an expression, and the one that becomes of it.
type foldLine struct {
	text string
	want string
}

// holdFolds: every line must hold, and the meaning with it.
func holdFolds(t *testing.T, lines []foldLine) {
	t.Helper()
	for _, l := range lines {
		e := read(t, l.text)
		if got, want := folded(t, l.text, e), read(t, l.want); !slices.Equal(got.Nodes, want.Nodes) {
			t.Errorf("Fold(%s) is %s, want %s", l.text, brief(got), l.want)
		}
		holdWalk(t, l.text, e, made(set(x, num(3)), elem(0, "2", str("two"))).Dump())
	}
}

// becomes: a tree must become these nodes, and mean the same.
func becomes(t *testing.T, what any, nodes []api.Node, want []api.Node) {
	t.Helper()
	e := api.Tree{Nodes: nodes}
	if got := folded(t, what, e); !slices.Equal(got.Nodes, want) {
		t.Errorf("Fold of %s: %s, want %s", brief(what), brief(got), brief(want))
	}
	holdWalk(t, what, e, begun().Dump())
}

// doubles: numbers of every class, a NaN of another pattern too.
func doubles() []uint64 {
	return []uint64{0, api.Sign, bits(1), bits(-1), bits(2), bits(3), bits(0.5), bits(-2.5), bits(1e300), bits(math.MaxFloat64), 1, api.Sign | 1, api.Inf, api.Sign | api.Inf, api.NaN, api.NaN | api.Sign, api.NaN | 5}
}

// one: a double's number of a node over it.
func one(n api.Node, d uint64) []api.Node { return over(n, patternNode(d)) }

// two: a node over two numbers.
func two(n api.Node, d uint64, e uint64) []api.Node {
	return over(n, patternNode(d), patternNode(e))
}

// P28.3: rules 1 and 4: one constant, of every class.
func TestFoldOne(t *testing.T) {
	for _, d := range doubles() {
		f := math.Float64frombits(d)
		not := 0.0
		if d&^api.Sign == 0 {
			not = 1
		}
		becomes(t, []any{"-", f}, one(api.Node{Kind: api.NodeNeg}, d), patternNode(d^api.Sign))
		becomes(t, []any{"+", f}, one(api.Node{Kind: api.NodePos}, d), patternNode(d))
		becomes(t, []any{"!", f}, one(api.Node{Kind: api.NodeNot}, d), numNode(not))
		becomes(t, []any{"int", f}, one(api.Node{Kind: api.NodeCall, Op: api.FnInt}, d), numNode(math.Trunc(f)))
		becomes(t, []any{"sqrt", f}, one(api.Node{Kind: api.NodeCall, Op: api.FnSqrt}, d), numNode(math.Sqrt(f)))
	}
}

// P28.3: rules 2 and 3: two constants, of every class; where the operation has an error the node stays.
func TestFoldTwo(t *testing.T) {
	truth := func(yes bool) []api.Node {
		if yes {
			return numNode(1)
		}
		return numNode(0)
	}
	for _, d := range doubles() {
		for _, e := range doubles() {
			f, g := math.Float64frombits(d), math.Float64frombits(e)
			for op, v := range map[int]float64{api.OpAdd: f + g, api.OpSub: f - g, api.OpMul: f * g, api.OpDiv: f / g, api.OpMod: math.Mod(f, g)} {
				n := api.Node{Kind: api.NodeBin, Op: op}
				want := numNode(v)
				if g == 0 && op >= api.OpDiv {
					want = two(n, d, e)
				}
				becomes(t, []any{f, op, g}, two(n, d, e), want)
			}
			for op, yes := range map[int]bool{api.LT: f < g, api.LE: f <= g, api.EQ: f == g, api.NE: f != g, api.GT: f > g, api.GE: f >= g} {
				becomes(t, []any{f, "relation", op, g}, two(api.Node{Kind: api.NodeRel, Op: op}, d, e), truth(yes))
			}
		}
	}
	pow := api.Node{Kind: api.NodeBin, Op: api.OpPow}
	for _, r := range []struct{ f, g, want float64 }{{2, 10, 1024}, {2, -1, 0.5}, {0, 0, 1}, {-3, 3, -27}, {math.NaN(), 0, 1}, {2, 1024, math.Inf(1)}, {0, -1, math.Inf(1)}} {
		becomes(t, []any{r.f, "^", r.g}, over(pow, numNode(r.f), numNode(r.g)), numNode(r.want))
	}
	for _, g := range []float64{0.5, 1025, -1025, math.NaN(), math.Inf(1), 1e300} {
		stays := over(pow, numNode(2), numNode(g))
		becomes(t, []any{2, "^", g}, stays, stays)
	}
}

// P28.3: rules 5 to 7: by every constant's truth; what would be walked on stays, with its faults and its changes.
func TestFoldBranches(t *testing.T) {
	steps := over(api.Node{Kind: api.NodeStep, Op: api.IncAfter}, varNode(x))
	fault := over(api.Node{Kind: api.NodeBin, Op: api.OpDiv}, numNode(1), numNode(0))
	and, or, cond := api.Node{Kind: api.NodeAnd}, api.Node{Kind: api.NodeOr}, api.Node{Kind: api.NodeCond}
	for _, d := range doubles() {
		truth := d&^api.Sign != 0
		k := patternNode(d)
		for what, kid := range map[string][]api.Node{"x++": steps, "1 / 0": fault, "a text": strNode("0"), "x": varNode(x)} {
			isAnd, isOr, isCond := over(and, k, kid), numNode(1), kid
			if !truth {
				isAnd, isOr, isCond = numNode(0), over(or, k, kid), strNode("other")
			}
			becomes(t, []any{d, "&&", what}, over(and, k, kid), isAnd)
			becomes(t, []any{d, "||", what}, over(or, k, kid), isOr)
			becomes(t, []any{d, "?", what}, over(cond, k, kid, strNode("other")), isCond)
			becomes(t, []any{what, "&&", d}, over(and, kid, k), over(and, kid, k))
			becomes(t, []any{what, "||", d}, over(or, kid, k), over(or, kid, k))
			becomes(t, []any{what, "?", d}, over(cond, kid, k, k), over(cond, kid, k, k))
		}
		for _, e := range doubles() {
			isAnd, isOr := 0.0, 0.0
			if truth && e&^api.Sign != 0 {
				isAnd = 1
			}
			if truth || e&^api.Sign != 0 {
				isOr = 1
			}
			becomes(t, []any{d, "&&", e}, two(and, d, e), numNode(isAnd))
			becomes(t, []any{d, "||", e}, two(or, d, e), numNode(isOr))
		}
	}
}

// P28.3: the rules go from the leaves up, wherever the operations stand; the second kid's rule may make the first of the node above.
func TestFoldDeep(t *testing.T) {
	holdFolds(t, []foldLine{
		{"(1 ? 2 : x) + 3", "5"}, {"(0 && x) + 3", "3"}, {"(0 || 5) - 1 ? y : z", "z"}, {"(1 < 2) && (2 < 1)", "0"}, {"!(1 && 0) ? 4 + 4 : x", "8"},
		{"1 ? 1 ? x : y : z", "x"}, {"0 ? x : 0 ? y : z", "z"}, {"1 ? 0 ? x : y : z", "y"}, {"(0 ? x : 1) ? a[1 + 1] : b[1]", "a[2]"},
		{"(1 ? x : y) + (0 ? x : $(1 + 1))", "x + $2"}, {"1 / 0 + 2 * 3", "1 / 0 + 6"}, {"(1 / 0 ? 1 + 1 : 3) && 2 + 2", "(1 / 0 ? 2 : 3) && 4"},
		{"1 && 2 && x && 3 + 4", "1 && x && 7"}, {"0 || 0 || x", "0 || x"}, {"x || 1", "x || 1"}, {"x && 0", "x && 0"}, {"1 || x || y", "1"}, {"0 && x || y", "0 || y"},
		{"1 - 1 ? 1 / 0 : 2 ^ 0.5", "2 ^ 0.5"}, {"int(1 / 0)", "int(1 / 0)"}, {"sqrt(int(16.5) + 0)", "4"}, {"int(x)", "int(x)"}, {`int("5")`, `int("5")`}, {`!"0"`, `!"0"`}, {`"1" + 2`, `"1" + 2`}, {`"" ? x : y`, `"" ? x : y`}, {`"a" && x`, `"a" && x`}, {`"a" == "a"`, `"a" == "a"`}, {`1 == "1"`, `1 == "1"`},
	})
}

// P28.3: every other node stays over its turned kids, though they all be constants; a target stays a target.
func TestFoldStays(t *testing.T) {
	holdFolds(t, []foldLine{
		{"a[1 + 1, 2 * 2]", "a[2, 4]"}, {"(1 + 1, 2 * 2) in a", "(2, 4) in a"}, {"1 + 1 in a", "2 in a"}, {"$(1 + 1)", "$2"}, {"$(1 ? x : y)", "$x"}, {"(1 + 1) (2 + 2)", "2 4"},
		{"x = 1 + 1", "x = 2"}, {"x = 1 ? y : z", "x = y"}, {"$(1 + 1) = 2 + 2", "$2 = 4"}, {"a[1 + 1] = 2 + 2", "a[2] = 4"}, {"a[0 ? x : y] = 1", "a[y] = 1"},
		{"x += 1 - 1", "x += 0"}, {"x /= 1 - 1", "x /= 0"}, {"$(1 + 1) -= 2 + 2", "$2 -= 4"}, {"a[1 + 1, 1] ^= 2 + 2", "a[2, 1] ^= 4"},
		{"x++", "x++"}, {"--$(1 + 1)", "--$2"}, {"a[1 + 1]++", "a[2]++"}, {"$(a[1 + 1]--)--", "$(a[2]--)--"},
		{"length(1 + 1)", "length(2)"}, {"substr(1 + 1, 1 + 1)", "substr(2, 2)"}, {"substr(1 + 1, 1 + 1, 1 * 1)", "substr(2, 2, 1)"}, {"index(1 + 1, 2 + 0)", "index(2, 2)"}, {`sprintf("%d", 1 + 1)`, `sprintf("%d", 2)`}, {"sprintf(1 + 1)", "sprintf(2)"},
		{"split(1 + 1, a, 2 - 1)", "split(2, a, 1)"}, {"toupper(1 + 1)", "toupper(2)"}, {"tolower(1 + 1)", "tolower(2)"}, {"sum(1 + 1)", "sum(2)"}, {"sum(1, 2, 3 * 3)", "sum(1, 2, 9)"}, {"asort(a)", "asort(a)"},
		{"sub(1 + 1, 2 + 2, x)", "sub(2, 4, x)"}, {"gsub(1 + 1, 2 + 2, $(2 - 2))", "gsub(2, 4, $0)"}, {"sub(1 ? x : y, 0 ? x : y, a[1 + 1])", "sub(x, y, a[2])"},
		{"7", "7"}, {`"s"`, `"s"`}, {"x", "x"}, {"NF", "NF"}, {"$1", "$1"},
	})
}

// P28.3: a new number has nothing but its bits, and its neighbours stay as they are.
func TestFoldNeighbours(t *testing.T) {
	kids := [][]api.Node{varNode(y), two(api.Node{Kind: api.NodeBin, Op: api.OpPow}, bits(2), bits(3)), strNode("t"), over(api.Node{Kind: api.NodeElem, Ref: 1}, numNode(4)), two(api.Node{Kind: api.NodeRel, Op: api.GE}, bits(2), bits(3)), numNode(9)}
	want := [][]api.Node{kids[0], numNode(8), kids[2], kids[3], numNode(0), kids[5]}
	sum := api.Node{Kind: api.NodeCall, Op: api.FnSum}
	for i := range kids {
		becomes(t, fmt.Sprint("a row from kid ", i), over(sum, kids[i:]...), over(sum, want[i:]...))
	}
}
