package tree_test

import (
	"slices"
	"strings"
	"testing"

	"abacus/api"
	"abacus/tree"
)

// holdParse: whether Parse answers this place and error, and with OK so many nodes.
func holdParse(t *testing.T, what string, s string, place int, e api.Errno, nodes int) {
	t.Helper()
	p, _, at, got := tree.Parse(s)
	if at != place || got != e || len(p.Nodes) != nodes {
		t.Errorf("%s (%.40s..): %d nodes, %d, %d, want %d, %d, %d", what, s, len(p.Nodes), at, got, nodes, place, e)
	}
}

// P24.2: what may be open at one place, to the last and one more, by each mark and by all of them together.
func TestOpen(t *testing.T) {
	r := strings.Repeat
	for _, c := range []struct {
		what, ahead, mark, behind string
		each                      int // how many open parts a repetition makes
		first                     int // the place of its first open part in it
	}{
		{"round brackets", "", "(", ")", 1, 0}, {"square brackets", "", "a[", "]", 1, 1}, {"assignments", "", "x=", "", 1, 1}, {"other assignments", "", "x-=", "", 1, 1}, {"conditions", "", "x?x:", "", 1, 1}, {"conditions within", "", "x?", ":x", 1, 1}, {"calls", "", "int(", ")", 1, 3}, {"lists", "", "sum(1,", ")", 1, 3}, {"several sought", "", "(1,", ")in a", 1, 0}, {"fields", "", "$(", ")", 1, 1}, {"brackets and assignments", "", "(x=", ")", 2, 0}, {"elements and conditions", "", "a[1?", ":2]", 2, 1}, {"all", "", "(a[x=1?", ":2])", 4, 0}, {"targets of sub", "", "sub(1,2,a[", "])", 2, 3}, {"behind closed ones", "(x=1?2:3)+a[1]*int(2) ", "(", ")", 1, 0}, {"behind closed conditions", "(x?y:z)(x=y)(x?y:z)", "(", ")", 1, 0},
	} {
		times := 1000 / c.each
		fits := c.ahead + r(c.mark, times) + "x" + r(c.behind, times)
		if _, _, at, e := tree.Parse(fits); e == api.ErrSyntax || e == api.ErrDepth && at != 0 {
			t.Errorf("%s, 1000 open: %d, %d", c.what, at, e)
		}
		more := c.ahead + r(c.mark, times) + c.mark + "x"
		holdParse(t, c.what+", one too many", more, len(c.ahead)+times*len(c.mark)+c.first, api.ErrDepth, 0)
		// What stands behind the fault doesn't count, nor does that the tree would be too deep.
		holdParse(t, c.what+", and more", more+") ) )", len(c.ahead)+times*len(c.mark)+c.first, api.ErrDepth, 0)
		// A fault that comes ahead counts instead.
		holdParse(t, c.what+", behind a fault", c.ahead+r(c.mark, times)+"*"+c.mark, len(c.ahead)+times*len(c.mark), api.ErrSyntax, 0)
	}
	holdParse(t, "1000 brackets, then others", r("(", 1000)+"x"+r(")", 1000)+"(y)", 0, api.OK, 3)
	holdParse(t, "brackets that are closed in between", r("(", 999)+r("(x)", 5000)+r(")", 999), 0, api.ErrDepth, 0)
	holdParse(t, "assignments that are closed in between", "sum("+r("x=x=1,", 1500)+"2)", 0, api.OK, 1500*5+2)
	holdParse(t, "conditions that are closed in between", "sum("+r("1?2?3:4:5,", 1000)+"2)", 0, api.OK, 1000*7+2)
	holdParse(t, "a condition's inner ones are closed at the colon", r("(", 998)+"1?2?3:4:5?6:7"+r(")", 998), 0, api.OK, 10)
	holdParse(t, "its last one isn't", r("(", 998)+"1?2?3:4:5?6?7:8:9"+r(")", 998), 998+11, api.ErrDepth, 0)
	holdParse(t, "an array in brackets", r("(", 1000)+"x in a"+r(")", 1000), 0, api.OK, 2)
	holdParse(t, "length without brackets", r("(", 1000)+"length"+r(")", 1000), 0, api.OK, 3)
	holdParse(t, "length with brackets", r("(", 1000)+"length("+r(")", 1001), 1006, api.ErrDepth, 0)
	holdParse(t, "a bracket that can't stand there", r("(", 1000)+"x in (", 1005, api.ErrSyntax, 0)
	holdParse(t, "an assignment that can't stand there", r("(", 1000)+"1=2", 1001, api.ErrSyntax, 0)
	holdParse(t, "a square bracket that can't stand there", r("(", 1000)+"1[2", 1001, api.ErrSyntax, 0)
	holdParse(t, "the end", r("(", 1000), 1000, api.ErrSyntax, 0)
	holdParse(t, "many", r("(", 300000), 1000, api.ErrDepth, 0)
}

// P24.2: depth and nodes of the whole tree, to the last and one more, with their order; both count behind every other fault of ParseAt.
func TestDepthAndNodes(t *testing.T) {
	r := strings.Repeat
	holdParse(t, "depth 200", r("-(", 199)+"x"+r(")", 199), 0, api.OK, 200)
	holdParse(t, "depth 201", " "+r("-(", 200)+"x"+r(")", 200), 1, api.ErrDepth, 0)
	holdParse(t, "signs, depth 200", r("! ", 199)+"x", 0, api.OK, 200)
	holdParse(t, "signs, depth 201", r("! ", 200)+"x", 0, api.ErrDepth, 0)
	holdParse(t, "powers, depth 200", r("x^", 199)+"x", 0, api.OK, 399)
	holdParse(t, "powers, depth 201", r("x^", 200)+"x", 0, api.ErrDepth, 0)
	holdParse(t, "fields, depth 200", r("$", 199)+"x", 0, api.OK, 200)
	holdParse(t, "fields, depth 201", r("$", 200)+"x", 0, api.ErrDepth, 0)
	holdParse(t, "sums, depth 200", r("1+", 199)+"1", 0, api.OK, 399)
	holdParse(t, "sums, depth 201", r("1+", 200)+"1", 0, api.ErrDepth, 0)
	holdParse(t, "put together, depth 200", r("1 ", 200), 0, api.OK, 399)
	holdParse(t, "put together, depth 201", r("1 ", 201), 0, api.ErrDepth, 0)
	holdParse(t, "length counts two below it", r("-", 0)+r("! ", 197)+"length", 0, api.OK, 200)
	holdParse(t, "length, one too deep", r("! ", 198)+"length", 0, api.ErrDepth, 0)
	holdParse(t, "a deep one in the midst", "1 + ("+r("! ", 200)+"x) + 1", 0, api.ErrDepth, 0)
	holdParse(t, "10000 nodes", "sum("+r("x,", 9998)+"x)", 0, api.OK, 10000)
	holdParse(t, "10001 nodes", "\tsum("+r("x,", 9999)+"x)", 1, api.ErrNodes, 0)
	holdParse(t, "nodes that are not written count", "sum("+r("length,", 3333)+"x)", 0, api.ErrNodes, 0)
	holdParse(t, "nodes ahead of depth", r("1+", 5000)+"1", 0, api.ErrNodes, 0)
	holdParse(t, "depth, where the nodes are few enough", r("1+", 4999)+"1", 0, api.ErrDepth, 0)
	holdParse(t, "a fault ahead of both", r("1+", 5000), 10000, api.ErrSyntax, 0)
	holdParse(t, "both ahead of what stands behind the expression", r("1+", 5000)+"1)", 0, api.ErrNodes, 0)
	holdParse(t, "depth ahead of what stands behind", r("! ", 200)+"x)", 0, api.ErrDepth, 0)
	toks := lex(t, "y ; "+r("! ", 200)+"x")
	if _, _, place, e := tree.ParseAt(toks, 2, api.Names{}); place != 2 || e != api.ErrDepth {
		t.Errorf("from 2: %d, %d", place, e)
	}
	if _, _, place, e := tree.ParseAt(toks, 3, api.Names{}); place != 203 || e != api.OK {
		t.Errorf("from 3: %d, %d", place, e)
	}
}

// P24.2, P1: the tokens of an expression, to the last and one more, in chains that nest as deep as they can.
func TestTokens(t *testing.T) {
	r := strings.Repeat
	const last = api.MaxToks
	holdParse(t, "signs", r("! ", last-1)+"x", 0, api.ErrNodes, 0)
	holdParse(t, "signs, one too many", r("! ", last)+"x", 2*last, api.ErrSyntax, 0)
	holdParse(t, "fields", r("$", last-1)+"x", 0, api.ErrNodes, 0)
	holdParse(t, "fields, one too many", r("$", last)+"x", last, api.ErrSyntax, 0)
	holdParse(t, "powers", "-"+r("x^", last/2-1)+"x", 0, api.ErrNodes, 0)
	holdParse(t, "powers, one too many", r("x^", last/2)+"x", last, api.ErrSyntax, 0)
	holdParse(t, "powers of signs", r("x^!", last/3)+"x", 0, api.ErrNodes, 0)
	holdParse(t, "steps of fields", r("$++", last/2-1)+"$x", 0, api.ErrNodes, 0)
	holdParse(t, "sums", r("1+", last/2)+"1", last, api.ErrSyntax, 0)
	holdParse(t, "a list", "sum("+r("x,", 32768)+"x)", 65538, api.ErrSyntax, 0)
	// The token that would go on isn't seen: the expression ends ahead of it, and its own faults come first.
	holdParse(t, "an end in the midst", r("1 ", last)+"1", 0, api.ErrNodes, 0)
	holdParse(t, "an end where it can't be", r("1 ", last-1)+"+ 1", 2*last, api.ErrSyntax, 0)
}

// P24.2: the last token that is seen stands at from + MaxToks - 1, wherever from is.
func TestTokensFromPlaces(t *testing.T) {
	for from := range 2 {
		for shift := range 5 {
			// Brackets about an element with many subscripts, and the last tokens about the last place.
			list := append(slices.Repeat(toksOf(";"), from), toksOf("( x [")...)
			for len(list) < from+api.MaxToks-1-2*shift {
				list = append(list, tok("1"), tok(","))
			}
			hold(t, append(list, toksOf("y [ 2 ] ] ) + 4")...), from, api.Names{})
		}
	}
	// Few nodes, and all tokens that may be: a chain of brackets that are closed again, each of which is the first kid of no more than one more.
	for shift := range 2 {
		list := toksOf("sum (")
		for len(list) < api.MaxToks-3000 {
			list = append(list, toksOf(strings.Repeat("( ", 900)+"1"+strings.Repeat(" )", 900)+" ,")...)
		}
		rest := api.MaxToks - len(list) - 2 - shift
		list = append(list, toksOf(strings.Repeat("( ", rest/2/3)+strings.Repeat("- ", rest%2)+"1"+strings.Repeat(" )", rest/2/3)+" )")...)
		list = append(list, toksOf(strings.Repeat("+ 1 ", (api.MaxToks-len(list))/2)+"+ + 5")...)
		if got := hold(t, list, 0, api.Names{}); got == api.ErrNodes {
			t.Errorf("%d tokens: too many nodes", len(list))
		}
	}
}

// P24.2: names to the last that right names can hold and one more, at the place of the name; ahead of what comes behind it.
func TestNamesLimit(t *testing.T) {
	full := api.Names{Vars: someNames("v", 247), Arrays: someNames("w", 64)}
	last := api.Names{Vars: full.Vars[:246], Arrays: full.Arrays[:63]}
	for _, c := range []struct {
		s     string
		names api.Names
		place int
		e     api.Errno
	}{
		{"v0 + w0[1] + w0", full, 7, api.ErrNames}, {"v0 + w0[1] + w0", last, 8, api.OK}, {"v0 + NR + NF", full, 5, api.OK}, {"x", full, 0, api.ErrNames}, {"x", last, 1, api.OK}, {"x y", last, 1, api.ErrNames}, {"x x", last, 2, api.OK}, {"x[1]", full, 0, api.ErrNames}, {"x[1]", last, 4, api.OK}, {"x[y]", last, 4, api.OK}, {"x[y[1]]", last, 2, api.ErrNames}, {"x[x]", last, 4, api.OK}, {"NR[1]", full, 0, api.ErrNames}, {"1 in x", full, 2, api.ErrNames}, {"1 in w63", full, 3, api.OK}, {"1 in w63", last, 3, api.OK}, {"(1, 2) in x", full, 6, api.ErrNames}, {"split(1, x)", full, 4, api.ErrNames}, {"split(x, w0)", full, 2, api.ErrNames}, {"asort(x)", full, 2, api.ErrNames}, {"asort(v0)", full, 2, api.ErrNames}, {"$x", full, 1, api.ErrNames}, {"++x", full, 1, api.ErrNames}, {"++x[1]", full, 1, api.ErrNames}, {"sub(1, 2, x)", full, 6, api.ErrNames}, {"x = )", full, 0, api.ErrNames}, {"1 ) x", full, 1, api.OK}, {"1 + ) x", full, 2, api.ErrSyntax}, {"int x", full, 1, api.ErrSyntax}, {"(1 in w0 x", full, 4, api.ErrSyntax}, {"1 in w0 x", full, 3, api.OK}, {"x y z", api.Names{Vars: full.Vars[:245]}, 2, api.ErrNames},
	} {
		toks := lex(t, c.s)
		if _, _, place, e := tree.ParseAt(toks, 0, c.names); place != c.place || e != c.e {
			t.Errorf("ParseAt(%s) with %d variables and %d arrays: %d, %d, want %d, %d", c.s, len(c.names.Vars), len(c.names.Arrays), place, e, c.place, c.e)
		}
		hold(t, toks, 0, c.names)
	}
	holdParse(t, "247 variables", strings.Join(append([]string{"sum(1"}, full.Vars...), ",")+")", 0, api.OK, 249)
	s := strings.Join(append([]string{"sum(1"}, full.Vars...), ",") + ",NR, x)"
	holdParse(t, "248 variables", s, len(s)-2, api.ErrNames, 0)
	s = "sum(" + strings.Join(full.Arrays, "[1],") + "[1],\nx[(])"
	holdParse(t, "65 arrays", s, len(s)-5, api.ErrNames, 0)
}

// P24.2: which fault comes first, where there are names, brackets and tokens that can't stand there.
func TestFirstFault(t *testing.T) {
	full := api.Names{Vars: someNames("v", 247), Arrays: someNames("w", 64)}
	deep := strings.Repeat("( ", 1000)
	for _, c := range []struct {
		s     string
		place int
		e     api.Errno
	}{
		{deep + "x [ 1", 1000, api.ErrNames}, {deep + "w0 [ 1", 1001, api.ErrDepth}, {deep + "v0 = x", 1001, api.ErrDepth}, {deep + "v0 ( x", 1001, api.ErrDepth}, {deep + "] x (", 1000, api.ErrSyntax}, {deep + "( x", 1000, api.ErrDepth}, {deep + "v0 ) + x", 1003, api.ErrNames}, {deep + "v0 ) + (", 1004, api.ErrSyntax}, {deep + "v0 ) ( ( x", 1003, api.ErrDepth},
	} {
		toks := toksOf(c.s)
		if _, _, place, e := tree.ParseAt(toks, 0, full); place != c.place || e != c.e {
			t.Errorf("ParseAt(.. %s): %d, %d, want %d, %d", c.s[len(deep):], place, e, c.place, c.e)
		}
		hold(t, toks, 0, full)
	}
}
