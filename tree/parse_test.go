package tree_test

import (
	"slices"
	"strings"
	"testing"

	"abacus/api"
	"abacus/token"
	"abacus/tree"
)

// P24.2: the document's examples and their like, by hand, as they are printed.
func TestShapes(t *testing.T) {
	for _, c := range []struct{ s, want string }{
		{"1 + 2 * 3", "(1 + (2 * 3))"}, {"a = b = c", "(a = (b = c))"}, {"a b - c", "(a (b - c))"}, {"2 ^ 3 ^ 2", "(2 ^ (3 ^ 2))"}, {"-2 ^ 2", "(-(2 ^ 2))"}, {"2 ^ -3 ^ 2", "(2 ^ (-(3 ^ 2)))"}, {"!x + 1", "((!x) + 1)"}, {"$x++", "($x++)"}, {"$NF - 1", "($NF - 1)"}, {"$$1", "$$1"}, {"a in b in c", "((a in b) in c)"}, {"(a, b) in c", "((a, b) in c)"}, {"a ? b : c ? d : e", "(a ? b : (c ? d : e))"}, {"x++ y", "((x++) y)"}, {"length", "length($0)"}, {"split(x, a)", "split(x, a, FS)"}, {"gsub(x, y)", "gsub(x, y, $0)"}, {"a < b", "(a < b)"}, {"x -1", "(x - 1)"}, {"x (-1)", "(x (-1))"}, {"f(1) g", "((f 1) g)"},
		{"1 - 2 - 3", "((1 - 2) - 3)"}, {"1 - 2 + 3", "((1 - 2) + 3)"}, {"8 / 4 * 2 % 3", "(((8 / 4) * 2) % 3)"}, {"a || b || c && d && e", "((a || b) || ((c && d) && e))"}, {"a b c", "((a b) c)"}, {"a b c < d e", "(((a b) c) < (d e))"}, {"a < b in c && d", "(((a < b) in c) && d)"}, {"a <= b", "(a <= b)"}, {"a == b", "(a == b)"}, {"a != b", "(a != b)"}, {"a > b", "(a > b)"}, {"a >= b", "(a >= b)"}, {"a ? b ? c : d : e", "(a ? (b ? c : d) : e)"}, {"a ? b = c : d = e", "(a ? (b = c) : (d = e))"}, {"a = b ? c : d", "(a = (b ? c : d))"},
		{"x += 1", "(x += 1)"}, {"x -= 1", "(x -= 1)"}, {"x *= 1", "(x *= 1)"}, {"x /= 1", "(x /= 1)"}, {"x %= 1", "(x %= 1)"}, {"x ^= 1", "(x ^= 1)"}, {"$x ^= y %= $1 = 2", "($x ^= (y %= ($1 = 2)))"}, {"$(x) = 1", "($x = 1)"}, {"$x[1] = 1", "($x[1] = 1)"}, {"x[x = 1, 2] = 1", "(x[(x = 1), 2] = 1)"}, {"$++x = 1", "($(++x) = 1)"}, {"$length = 1", "($length($0) = 1)"},
		{"++x", "(++x)"}, {"--x", "(--x)"}, {"x--", "(x--)"}, {"++$x", "(++$x)"}, {"++x[1]", "(++x[1])"}, {"$++x", "$(++x)"}, {"$--$x", "$(--$x)"}, {"$++x++", "($(++x)++)"}, {"$$x--", "($$x--)"}, {"$\"a\"", "$\"a\""}, {"$x[1]", "$x[1]"}, {"$(x)++", "($x++)"}, {"(x)++y", "(x (++y))"}, {"1++x", "(1 (++x))"}, {"x++--y", "((x++) (--y))"}, {"++x y", "((++x) y)"}, {"++x^2", "((++x) ^ 2)"}, {"x++^2", "((x++) ^ 2)"}, {"x^y++", "(x ^ (y++))"}, {"-x++", "(-(x++))"}, {"- --x", "(-(--x))"}, {"x - -y", "(x - (-y))"}, {"!-+x", "(!(-(+x)))"}, {"2 ^ !+3", "(2 ^ (!(+3)))"}, {"2 ^ -3 * 4", "((2 ^ (-3)) * 4)"}, {"-x y", "((-x) y)"}, {"-x in a", "((-x) in a)"}, {"-(x, y) in a", "(-((x, y) in a))"}, {"2 ^ (x, y) in a", "(2 ^ ((x, y) in a))"}, {"(x, y) in a in b", "(((x, y) in a) in b)"}, {"(x, y, 1, 2) in a b", "(((x, y, 1, 2) in a) b)"}, {"(x, y) in a ++z", "(((x, y) in a) (++z))"}, {"((x, y) in a, z) in b", "((((x, y) in a), z) in b)"}, {"$((x, y) in a)", "$((x, y) in a)"}, {"(((x)))", "x"},
		{"length()", "length($0)"}, {"length(x)", "length(x)"}, {"length x", "(length($0) x)"}, {"length + 1", "(length($0) + 1)"}, {"length length", "(length($0) length($0))"}, {"length (x) y", "(length(x) y)"}, {"-length", "(-length($0))"}, {"substr(x, 1)", "substr(x, 1)"}, {"substr(x, 1, 2)", "substr(x, 1, 2)"}, {"index(x, y)", "index(x, y)"}, {"sprintf(x)", "sprintf(x)"}, {"sprintf(x, 1, 2, 3)", "sprintf(x, 1, 2, 3)"}, {"split(x, a, y)", "split(x, a, y)"}, {"split(x = 1, x, x ? 1 : 2)", "split((x = 1), x, (x ? 1 : 2))"}, {"int(x)", "int(x)"}, {"sqrt(x)", "sqrt(x)"}, {"toupper(x)", "toupper(x)"}, {"tolower(x)", "tolower(x)"}, {"sub(x, y)", "sub(x, y, $0)"}, {"sub(x, y, z)", "sub(x, y, z)"}, {"gsub(x, y, z[1, 2])", "gsub(x, y, z[1, 2])"}, {"sub(x, y, $++z)", "sub(x, y, $(++z))"}, {"sum(x)", "sum(x)"}, {"sum(x, y, x y)", "sum(x, y, (x y))"}, {"asort(x)", "asort(x)"}, {"asort(NR)", "asort(NR)"}, {"int(x) ++y", "(int(x) (++y))"}, {"sub(x, y) sub(y, x)", "(sub(x, y, $0) sub(y, x, $0))"},
		{"\"a\" \"\\n\"", "(\"a\" \"\\n\")"}, {".5e1", "5"}, {"1 2", "(1 2)"}, {"1.5.5", "(1.5 0.5)"}, {"0x10", "(0 x10)"}, {"a &&\n b", "(a && b)"}, {"(a,\nb) in c", "((a, b) in c)"}, {"a # go", "a"}, {"a \\\n + b", "(a + b)"},
	} {
		p, names, at, e := tree.Parse(c.s)
		if at != 0 || e != api.OK {
			t.Errorf("Parse(%q): %d, %d", c.s, at, e)
			continue
		}
		if text := printed(p.Nodes, len(p.Nodes)-1, names); text != c.want {
			t.Errorf("Parse(%q): %s, want %s", c.s, text, c.want)
		}
		hold(t, lex(t, c.s), 0, api.Names{})
		holdBack(t, p.Nodes, names)
	}
}

// P24.2: a tree, node by node, each with just the fields that its Kind uses.
func TestNodes(t *testing.T) {
	p, names, at, e := tree.Parse("a[x, \"s\"] += split($2, b) in a ? -NR++ : gsub(1, 2) ^ asort(a)")
	two := uint64(0x4000000000000000)
	want := []api.Node{
		{Kind: api.NodeVar, Ref: 9}, {Kind: api.NodeStr, Str: "s"}, {Kind: api.NodeElem, Ref: 0, N: 2},
		{Kind: api.NodeNum, Num: two}, {Kind: api.NodeField, N: 1}, {Kind: api.NodeVar, Ref: api.VarFs}, {Kind: api.NodeCall, Op: api.FnSplit, Ref: 1, N: 2}, {Kind: api.NodeIn, Ref: 0, N: 1},
		{Kind: api.NodeVar, Ref: api.VarNr}, {Kind: api.NodeStep, Op: api.IncAfter, N: 1}, {Kind: api.NodeNeg, N: 1},
		{Kind: api.NodeNum, Num: api.One}, {Kind: api.NodeNum, Num: two}, {Kind: api.NodeNum}, {Kind: api.NodeField, N: 1}, {Kind: api.NodeCall, Op: api.FnGsub, N: 3},
		{Kind: api.NodeCall, Op: api.FnAsort, Ref: 0}, {Kind: api.NodeBin, Op: api.OpPow, N: 2}, {Kind: api.NodeCond, N: 3}, {Kind: api.NodeOpSet, Op: api.OpAdd, N: 2},
	}
	if !slices.Equal(p.Nodes, want) || !same(names, api.Names{Vars: []string{"x"}, Arrays: []string{"a", "b"}}) || at != 0 || e != api.OK {
		t.Errorf("%v, %v, %d, %d, want %v", p.Nodes, names, at, e, want)
	}
}

// P24.2: the document's faults and their like, by hand.
func TestFaults(t *testing.T) {
	for _, c := range []struct {
		s     string
		place int
		e     api.Errno
	}{
		{"a < b < c", 6, api.ErrSyntax}, {"a + b = c", 6, api.ErrSyntax}, {"(a) = 1", 4, api.ErrSyntax}, {"++(x)", 2, api.ErrSyntax}, {"x++++", 5, api.ErrSyntax}, {"$-1", 1, api.ErrSyntax}, {"(a, b)", 6, api.ErrSyntax}, {"", 0, api.ErrSyntax}, {"sub(a, b, c + 1)", 12, api.ErrSyntax}, {"a[1", 3, api.ErrSyntax},
		{"  ", 2, api.ErrSyntax}, {"x++ = 1", 4, api.ErrSyntax}, {"++x = 1", 4, api.ErrSyntax}, {"-x = 1", 3, api.ErrSyntax}, {"1 = 1", 2, api.ErrSyntax}, {"a b = 1", 4, api.ErrSyntax}, {"a ? b : (c) = 1", 12, api.ErrSyntax}, {"length = 1", 7, api.ErrSyntax}, {"x ^ y = 1", 6, api.ErrSyntax}, {"a in b = 1", 7, api.ErrSyntax}, {"(a, b) = 1", 7, api.ErrSyntax}, {"a == b = c", 7, api.ErrSyntax}, {"(x = 1) = 2", 8, api.ErrSyntax}, {"$x++ = 1", 5, api.ErrSyntax}, {"a && x = 1", 7, api.ErrSyntax},
		{"++", 2, api.ErrSyntax}, {"++1", 2, api.ErrSyntax}, {"++x++", 5, api.ErrSyntax}, {"++++x", 2, api.ErrSyntax}, {"++length", 2, api.ErrSyntax}, {"1++", 3, api.ErrSyntax}, {"(x)++", 5, api.ErrSyntax}, {"$", 1, api.ErrSyntax}, {"$!x", 1, api.ErrSyntax}, {"$++1", 3, api.ErrSyntax}, {"$++(x)", 3, api.ErrSyntax}, {"$(a, b)", 3, api.ErrSyntax}, {"$()", 2, api.ErrSyntax}, {"()", 1, api.ErrSyntax}, {"(x", 2, api.ErrSyntax}, {"x)", 1, api.ErrSyntax}, {"(x y", 4, api.ErrSyntax}, {"(a, )", 4, api.ErrSyntax}, {"(a, b) in", 9, api.ErrSyntax}, {"(a, b) in 1", 10, api.ErrSyntax}, {"(a, b) c", 7, api.ErrSyntax}, {"(a, b) in (c)", 10, api.ErrSyntax}, {"a in", 4, api.ErrSyntax}, {"a in b c", 7, api.ErrSyntax}, {"a in b < c", 7, api.ErrSyntax}, {"a in b[1]", 6, api.ErrSyntax}, {"a in $1", 5, api.ErrSyntax}, {"a in length", 5, api.ErrSyntax}, {"in a", 0, api.ErrSyntax}, {"a !b", 2, api.ErrSyntax}, {"a ! = b", 2, api.ErrSyntax}, {"a ? b", 5, api.ErrSyntax}, {"a ? : b", 4, api.ErrSyntax}, {"a ? b : ", 8, api.ErrSyntax}, {"a : b", 2, api.ErrSyntax}, {"a, b", 1, api.ErrSyntax}, {"a + ", 4, api.ErrSyntax}, {"a + * b", 4, api.ErrSyntax}, {"a || || b", 5, api.ErrSyntax}, {"a <", 3, api.ErrSyntax}, {"a[]", 2, api.ErrSyntax}, {"a[1,]", 4, api.ErrSyntax}, {"a[1)", 3, api.ErrSyntax}, {"a[1] [2]", 5, api.ErrSyntax}, {"(a]", 2, api.ErrSyntax}, {"a ; b", 2, api.ErrSyntax}, {"a\nb", 1, api.ErrSyntax}, {"{ a }", 0, api.ErrSyntax}, {"print a", 0, api.ErrSyntax}, {"a else", 2, api.ErrSyntax}, {"a if", 2, api.ErrSyntax},
		{"length(", 7, api.ErrSyntax}, {"length(x, y)", 8, api.ErrSyntax}, {"int", 3, api.ErrSyntax}, {"int x", 4, api.ErrSyntax}, {"int()", 4, api.ErrSyntax}, {"int(x, y)", 5, api.ErrSyntax}, {"sqrt()", 5, api.ErrSyntax}, {"toupper()", 8, api.ErrSyntax}, {"tolower(x,)", 9, api.ErrSyntax}, {"substr(x)", 8, api.ErrSyntax}, {"substr(x, 1, 2, 3)", 14, api.ErrSyntax}, {"substr()", 7, api.ErrSyntax}, {"index(x)", 7, api.ErrSyntax}, {"index(x, y, z)", 10, api.ErrSyntax}, {"sprintf()", 8, api.ErrSyntax}, {"sprintf(x,)", 10, api.ErrSyntax}, {"sum()", 4, api.ErrSyntax}, {"split(x)", 7, api.ErrSyntax}, {"split(x, 1)", 9, api.ErrSyntax}, {"split(x, (a))", 9, api.ErrSyntax}, {"split(x, a[1])", 10, api.ErrSyntax}, {"split(x, a b)", 11, api.ErrSyntax}, {"split(x, a, )", 12, api.ErrSyntax}, {"split(x, a, y, z)", 13, api.ErrSyntax}, {"asort()", 6, api.ErrSyntax}, {"asort(1)", 6, api.ErrSyntax}, {"asort(a, b)", 7, api.ErrSyntax}, {"asort(a[1])", 7, api.ErrSyntax}, {"asort(sum)", 6, api.ErrSyntax}, {"sub(x)", 5, api.ErrSyntax}, {"sub(x, y, )", 10, api.ErrSyntax}, {"sub(x, y, (z))", 10, api.ErrSyntax}, {"sub(x, y, 1)", 10, api.ErrSyntax}, {"sub(x, y, ++z)", 10, api.ErrSyntax}, {"gsub(x, y, z++)", 12, api.ErrSyntax}, {"gsub(x, y, z = 1)", 13, api.ErrSyntax}, {"gsub(x, y, z, 1)", 12, api.ErrSyntax}, {"gsub(x, y, z in a)", 13, api.ErrSyntax}, {"sub(x, y, length)", 10, api.ErrSyntax},
		{"a & b", 2, api.ErrByte}, {"(((( &", 5, api.ErrByte}, {"\"x", 0, api.ErrQuote}, {"1 \"\\q\"", 3, api.ErrEscape}, {") \"", 2, api.ErrQuote},
	} {
		p, names, at, e := tree.Parse(c.s)
		if at != c.place || e != c.e || len(p.Nodes) != 0 || len(names.Vars)+len(names.Arrays) != 0 {
			t.Errorf("Parse(%q): %v, %v, %d, %d, want %d, %d", c.s, p, names, at, e, c.place, c.e)
		}
		if toks, _, e := token.Lex(c.s); e == api.OK {
			hold(t, toks, 0, api.Names{})
		}
	}
}

// P24.2, P24.3: every token list up to some length of tokens that matter to one another, each as long as what stands ahead of its last token is no fault.
func TestShortLists(t *testing.T) {
	for _, c := range []struct {
		words  string
		length int
	}{
		{"1 \"s\" x y length split sub asort $ ( ) [ ] ++ -- - ! ^ * in , = += ? : < == && || ; if {", 4},
		{"x 1 $ ( ) ++ -", 5}, {"x 1 = ? : +=", 8}, {"x ( ) , in", 9}, {"x [ ] , = ++", 9}, {"x 1 < && || in + *", 5}, {"x ^ - ! + 1", 5}, {"length ( ) x , $", 6}, {"split sub asort ( ) , x", 7}, {"sprintf substr index ( ) , 1", 7}, {"x \"s\" length $ ( ++ !", 5},
	} {
		var alphabet []api.Token
		for _, w := range strings.Fields(c.words) {
			alphabet = append(alphabet, tok(w))
		}
		grow(t, alphabet, nil, c.length)
	}
}

// grow: holds a list and all that go on with it. What stands behind a fault, or behind the end of an expression, can't change it.
func grow(t *testing.T, alphabet []api.Token, toks []api.Token, left int) {
	hold(t, toks, 0, api.Names{})
	_, _, place, e := tree.ParseAt(toks, 0, api.Names{})
	if left == 0 || place < len(toks) && (e == api.ErrSyntax || e == api.OK) {
		return
	}
	for _, one := range alphabet {
		grow(t, alphabet, append(slices.Clone(toks), one), left-1)
	}
}

// drawWords: a drawn text of a form of the grammar; when the words that may be drawn are used up, the shortest way out is taken.
func drawWords(seed *uint64, f *form, left *int) []string {
	var out []string
	switch {
	case f.kind == '|' && *left <= 0:
		return drawWords(seed, f.parts[shortest(f.parts)], left)
	case f.kind == '|':
		return drawWords(seed, pick(seed, f.parts...), left)
	case f.kind == 's':
		for _, one := range f.parts {
			out = append(out, drawWords(seed, one, left)...)
		}
		return out
	case f.kind == '[', f.kind == '{':
		for *left > 0 && between(seed, 0, 4) == 0 {
			out = append(out, drawWords(seed, f.parts[0], left)...)
			if f.kind == '[' {
				break
			}
		}
		return out
	case f.rule != nil:
		return drawWords(seed, f.rule, left)
	}
	*left--
	switch f.word {
	case "<target>", "<begins>":
		return nil
	case "NUMBER":
		return []string{pick(seed, "0", "7")}
	case "TEXT":
		return []string{pick(seed, `""`, `"s"`)}
	case "NAME":
		return []string{pick(seed, "x", "y", "NR", "FS", "a")}
	}
	return []string{strings.Trim(f.word, `"`)}
}

// shortest: the place of the form that leads to no other expr, if there is one.
func shortest(parts []*form) int {
	for i, one := range parts {
		if word := one.parts[0].word; word == "NUMBER" || word == "pow" || word == "prim" || word == "NAME" || len(parts) > 10 {
			return i
		}
	}
	return 0
}

// P24.2, P24.3: drawn expressions of the grammar, from any place on and with names, as they are and with tokens that are changed, left out, put in or swapped.
func TestDrawnLists(t *testing.T) {
	seed := uint64(241)
	marks := append(slices.Clone(operators), "1", `"s"`, "x", "y", "a", "NR", "length", "split", "sub", "in", "in", ";", "if", "(", ")", ",", "$", "++")
	fine := 0
	for range 15000 {
		var toks []api.Token
		left := between(&seed, 1, 60)
		for _, w := range drawWords(&seed, rules["expr"], &left) {
			toks = append(toks, tok(w))
		}
		for range pick(&seed, 0, 0, 1, 2) {
			i := between(&seed, 0, len(toks)-1)
			switch between(&seed, 0, 3) {
			case 0:
				toks[i] = tok(pick(&seed, marks...))
			case 1:
				toks = slices.Insert(toks, i, tok(pick(&seed, marks...)))
			case 2:
				toks = append(slices.Delete(toks, i, i+1), tok("x"))
			default:
				j := between(&seed, 0, len(toks)-1)
				toks[i], toks[j] = toks[j], toks[i]
			}
		}
		names := pick(&seed, api.Names{}, api.Names{Vars: []string{"y", "q"}}, api.Names{Arrays: []string{"x"}}, api.Names{Vars: someNames("v", 246), Arrays: someNames("w", 63)})
		if hold(t, toks, pick(&seed, 0, 0, 0, between(&seed, -1, len(toks)+1)), names) == api.OK {
			fine++
		}
	}
	if fine < 5000 {
		t.Errorf("only %d of the drawn lists were expressions", fine)
	}
}

// P24.2: tokens that stand in no expression: an expression ends ahead of them, and where it can't end they are its fault.
func TestOtherTokens(t *testing.T) {
	x, plus := tok("x"), tok("+")
	for _, bad := range []api.Token{
		{}, {Kind: api.TokEnd, Text: "x"}, {Kind: api.TokFunc, Text: "foo"}, {Kind: api.TokFunc, Text: "x"}, {Kind: api.TokFunc}, {Kind: api.TokName, Text: "1x"}, {Kind: api.TokName}, {Kind: api.TokName, Text: "in"}, {Kind: api.TokName, Text: "length"}, {Kind: api.TokName, Text: "if"}, {Kind: api.TokName, Text: "a b"}, {Kind: api.TokName, Text: "\xff"}, {Kind: 8, Text: "x"}, {Kind: 99}, {Kind: -1}, {Kind: 1 << 62, Text: "("}, {Kind: api.TokLine}, {Kind: api.TokLine, Text: ";"}, {Kind: api.TokLine, Text: "("}, {Kind: api.TokKeyword}, {Kind: api.TokKeyword, Text: "if"}, {Kind: api.TokKeyword, Text: "In"}, {Kind: api.TokOp}, {Kind: api.TokOp, Text: "in"}, {Kind: api.TokOp, Text: "&&&"}, {Kind: api.TokOp, Text: "&"}, {Kind: api.TokOp, Text: "x"}, {Kind: api.TokOp, Text: "++="}, {Kind: api.TokOp, Text: "=="[:1] + "+"}, {Kind: api.TokOp, Text: "{"}, {Kind: api.TokOp, Text: "}"}, {Kind: api.TokOp, Text: " +"}, {Kind: api.TokOp, Text: "**"}, {Kind: api.TokOp, Text: "length"},
	} {
		for _, c := range []struct {
			toks  []api.Token
			place int
			e     api.Errno
		}{
			{[]api.Token{bad}, 0, api.ErrSyntax}, {[]api.Token{x, plus, bad}, 2, api.ErrSyntax}, {[]api.Token{x, bad}, 1, api.OK}, {[]api.Token{x, bad, x}, 1, api.OK}, {[]api.Token{tok("("), x, bad}, 2, api.ErrSyntax}, {[]api.Token{tok("$"), bad}, 1, api.ErrSyntax}, {[]api.Token{tok("++"), bad}, 1, api.ErrSyntax}, {[]api.Token{x, tok("in"), bad}, 2, api.ErrSyntax}, {[]api.Token{tok("length"), bad}, 1, api.OK}, {[]api.Token{tok("int"), bad}, 1, api.ErrSyntax},
		} {
			if _, _, place, e := tree.ParseAt(c.toks, 0, api.Names{}); place != c.place || e != c.e {
				t.Errorf("ParseAt(%s): %d, %d, want %d, %d", texts(c.toks), place, e, c.place, c.e)
			}
			hold(t, c.toks, 0, api.Names{})
		}
	}
}

// P24.2: of a token only Kind, Text and Num are looked at, and of a number's any Num is taken.
func TestRawTokens(t *testing.T) {
	for _, d := range []uint64{0, 1, api.NaN, api.Inf, api.Sign, api.Sign | api.One, 1<<64 - 1} {
		toks := []api.Token{{Kind: api.TokNumber, Num: d, Text: "x", At: -5, End: 1 << 40}}
		p, _, place, e := tree.ParseAt(toks, 0, api.Names{})
		if !slices.Equal(p.Nodes, []api.Node{{Kind: api.NodeNum, Num: d}}) || place != 1 || e != api.OK {
			t.Errorf("the number %x: %v, %d, %d", d, p, place, e)
		}
	}
	toks := []api.Token{{Kind: api.TokString, Text: "\x00\"", Num: 5}, {Kind: api.TokName, Text: "x", Num: 5}, {Kind: api.TokFunc, Text: "length", Num: 5}}
	p, _, place, e := tree.ParseAt(toks, 0, api.Names{})
	want := []api.Node{{Kind: api.NodeStr, Str: "\x00\""}, {Kind: api.NodeVar, Ref: 9}, {Kind: api.NodeCat, N: 2}, {Kind: api.NodeNum}, {Kind: api.NodeField, N: 1}, {Kind: api.NodeCall, Op: api.FnLength, N: 1}, {Kind: api.NodeCat, N: 2}}
	if !slices.Equal(p.Nodes, want) || place != 3 || e != api.OK {
		t.Errorf("%v, %d, %d", p, place, e)
	}
}

// P24.2: from any place on; the document's example.
func TestFrom(t *testing.T) {
	toks := lex(t, "a + b ; c")
	for _, c := range []struct {
		from  int
		place int
		e     api.Errno
		text  string
	}{
		{0, 3, api.OK, "(a + b)"}, {1, 3, api.OK, "(+b)"}, {2, 3, api.OK, "b"}, {4, 5, api.OK, "c"}, {3, 3, api.ErrSyntax, ""}, {5, 5, api.ErrSyntax, ""}, {6, 6, api.ErrSyntax, ""}, {7, 7, api.ErrSyntax, ""}, {-1, -1, api.ErrSyntax, ""}, {-1 << 63, -1 << 63, api.ErrSyntax, ""}, {1<<63 - 1, 1<<63 - 1, api.ErrSyntax, ""}, {1<<63 - 65536, 1<<63 - 65536, api.ErrSyntax, ""}, {-65536, -65536, api.ErrSyntax, ""},
	} {
		p, names, place, e := tree.ParseAt(toks, c.from, api.Names{})
		if place != c.place || e != c.e {
			t.Errorf("from %d: %d, %d", c.from, place, e)
		}
		if e == api.OK && printed(p.Nodes, len(p.Nodes)-1, names) != c.text {
			t.Errorf("from %d: %v", c.from, p)
		}
		hold(t, toks, c.from, api.Names{})
	}
	for _, from := range []int{0, 1, -1} {
		if _, _, place, e := tree.ParseAt(nil, from, api.Names{}); place != from || e != api.ErrSyntax {
			t.Errorf("no tokens, from %d: %d, %d", from, place, e)
		}
	}
	if p, _, place, e := tree.ParseAt(toks[:1], 0, api.Names{}); len(p.Nodes) != 1 || place != 1 || e != api.OK {
		t.Errorf("a list without an end: %v, %d, %d", p, place, e)
	}
}
