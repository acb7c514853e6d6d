package tree_test

import (
	"fmt"
	"regexp"
	"slices"
	"strconv"
	"strings"
	"testing"

	"abacus/api"
	"abacus/token"
	"abacus/tree"
)

// random: a number from a fixed row (splitmix64), so that every run tests the same.
func random(seed *uint64) uint64 {
	*seed += 0x9e3779b97f4a7c15
	z := *seed
	z = (z ^ z>>30) * 0xbf58476d1ce4e5b9
	z = (z ^ z>>27) * 0x94d049bb133111eb
	return z ^ z>>31
}

// between: a number from low to high.
func between(seed *uint64, low int, high int) int {
	return low + int(random(seed)%uint64(high-low+1))
}

// pick: one of these.
func pick[T any](seed *uint64, list ...T) T { return list[between(seed, 0, len(list)-1)] }

// brief: enough of a thing to know it by.
func brief(x any) string {
	text := fmt.Sprintf("%+v", x)
	if len(text) > 400 {
		return text[:400] + ".."
	}
	return text
}

// lex: the tokens of a text that has no fault, the end among them.
func lex(t *testing.T, s string) []api.Token {
	t.Helper()
	toks, _, e := token.Lex(s)
	if e != api.OK {
		t.Fatalf("Lex(%.99q): %d", s, e)
	}
	return toks
}

// The words of the document's lists.
var (
	functions = strings.Fields("length substr index sprintf split int sqrt toupper tolower sub gsub sum asort")
	keywords  = strings.Fields("BEGIN END if else while for in break continue next exit print printf delete")
	operators = strings.Fields("++ -- += -= *= /= %= ^= == <= >= != && || + - * / % ^ ! < > = ? : , $ ( ) [ ] { }")
	nine      = strings.Fields("CONVFMT OFMT SUBSEP FS OFS ORS RS NR NF")
	word      = regexp.MustCompile(`^[A-Za-z_][A-Za-z0-9_]*$`)
)

// isName: whether a text is a name of a script.
func isName(s string) bool {
	if s == "x" || s == "y" {
		return true // the most of them by far
	}
	return word.MatchString(s) && !strings.Contains(s, "\n") && !slices.Contains(functions, s) && !slices.Contains(keywords, s)
}

// areRight: whether names are right.
func areRight(names api.Names) bool {
	for _, list := range [][]string{names.Vars, names.Arrays} {
		for i, name := range list {
			if !isName(name) || slices.Contains(list[:i], name) {
				return false
			}
		}
	}
	for _, name := range nine {
		if slices.Contains(names.Vars, name) {
			return false
		}
	}
	return len(names.Vars) <= 247 && len(names.Arrays) <= 64
}

// begins: whether names begin with others.
func begins(names api.Names, others api.Names) bool {
	return len(names.Vars) >= len(others.Vars) && len(names.Arrays) >= len(others.Arrays) &&
		slices.Equal(names.Vars[:len(others.Vars)], others.Vars) && slices.Equal(names.Arrays[:len(others.Arrays)], others.Arrays)
}

// same: whether two names are the same.
func same(a api.Names, b api.Names) bool { return begins(a, b) && begins(b, a) }

// kids: the places of a node's kids in nodes, the first first, and the place at which its subtree begins; told backwards from the node, ok if they are there.
func kids(nodes []api.Node, i int) (places []int, start int, ok bool) {
	start = i
	for range nodes[i].N {
		if start == 0 {
			return nil, 0, false
		}
		places = append(places, start-1)
		if _, start, ok = kids(nodes, start-1); !ok {
			return nil, 0, false
		}
	}
	slices.Reverse(places)
	return places, start, true
}

// printed: the text of a tree's node, by the document's forms.
func printed(nodes []api.Node, i int, names api.Names) string {
	n := nodes[i]
	places, _, _ := kids(nodes, i)
	var k []string
	for _, place := range places {
		k = append(k, printed(nodes, place, names))
	}
	array := func() string { return names.Arrays[n.Ref] }
	signs := []string{"", "+", "-", "*", "/", "%", "^"}
	switch n.Kind {
	case api.NodeNum:
		text, _ := token.Number(n.Num)
		return text
	case api.NodeStr:
		return token.Quote(n.Str)
	case api.NodeVar:
		return append(slices.Clone(nine), names.Vars...)[n.Ref]
	case api.NodeField:
		return "$" + k[0]
	case api.NodeElem:
		return array() + "[" + strings.Join(k, ", ") + "]"
	case api.NodeIn:
		if len(k) > 1 {
			return "((" + strings.Join(k, ", ") + ") in " + array() + ")"
		}
		return "(" + k[0] + " in " + array() + ")"
	case api.NodeNeg, api.NodePos, api.NodeNot:
		return "(" + []string{"-", "+", "!"}[n.Kind-api.NodeNeg] + k[0] + ")"
	case api.NodeBin:
		return "(" + k[0] + " " + signs[n.Op] + " " + k[1] + ")"
	case api.NodeCat:
		return "(" + k[0] + " " + k[1] + ")"
	case api.NodeRel:
		return "(" + k[0] + " " + []string{"", "<", "<=", "==", "!=", ">", ">="}[n.Op] + " " + k[1] + ")"
	case api.NodeAnd:
		return "(" + k[0] + " && " + k[1] + ")"
	case api.NodeOr:
		return "(" + k[0] + " || " + k[1] + ")"
	case api.NodeCond:
		return "(" + k[0] + " ? " + k[1] + " : " + k[2] + ")"
	case api.NodeAssign:
		return "(" + k[0] + " = " + k[1] + ")"
	case api.NodeOpSet:
		return "(" + k[0] + " " + signs[n.Op] + "= " + k[1] + ")"
	case api.NodeStep:
		return []string{"", "(++" + k[0] + ")", "(--" + k[0] + ")", "(" + k[0] + "++)", "(" + k[0] + "--)"}[n.Op]
	}
	switch n.Op {
	case api.FnSplit:
		k = []string{k[0], array(), k[1]}
	case api.FnAsort:
		k = []string{array()}
	}
	return functions[n.Op-1] + "(" + strings.Join(k, ", ") + ")"
}

// someNames: so many names.
func someNames(letter string, count int) []string {
	out := make([]string, count)
	for i := range out {
		out[i] = letter + strconv.Itoa(i)
	}
	return out
}

// drawTree: a drawn tree of so many levels at most; refs say how many variables and arrays are drawn from.
func drawTree(seed *uint64, levels int, vars int, arrays int) []api.Node {
	kind := between(seed, api.NodeNum, api.NodeCall)
	if levels <= 1 {
		kind = pick(seed, api.NodeNum, api.NodeStr, api.NodeVar, api.NodeCall)
	}
	var out []api.Node
	below := func(count int) {
		for range count {
			out = append(out, drawTree(seed, levels-between(seed, 1, 2), vars, arrays)...)
		}
	}
	n := api.Node{Kind: kind}
	switch kind {
	case api.NodeNum:
		n.Num = pick(seed, 0, 1, api.One, 0x3fb999999999999a, api.Most, random(seed)%api.Inf)
	case api.NodeStr:
		n.Str = pick(seed, "", "x", "a\"b", "\\\n\x00\xff", " ", "(1)")
	case api.NodeVar:
		n.Ref = between(seed, 0, vars-1)
	case api.NodeElem, api.NodeIn:
		n.Ref, n.N = between(seed, 0, arrays-1), between(seed, 1, 3)
		below(n.N)
	case api.NodeField, api.NodeNeg, api.NodePos, api.NodeNot:
		n.N = 1
		below(1)
	case api.NodeBin, api.NodeCat, api.NodeRel, api.NodeAnd, api.NodeOr:
		n.N = 2
		if kind == api.NodeBin || kind == api.NodeRel {
			n.Op = between(seed, 1, 6)
		}
		below(2)
	case api.NodeCond:
		n.N = 3
		below(3)
	case api.NodeAssign, api.NodeOpSet:
		n.N = 2
		if kind == api.NodeOpSet {
			n.Op = between(seed, 1, 6)
		}
		out = drawTarget(seed, levels-1, vars, arrays)
		below(1)
	case api.NodeStep:
		n.N, n.Op = 1, between(seed, 1, 4)
		out = drawTarget(seed, levels-1, vars, arrays)
	case api.NodeCall:
		n.Op = between(seed, 1, 13)
		if levels <= 1 {
			n.Op = api.FnAsort
		}
		n.N = pick(seed, counts(n.Op)...)
		if n.Op == api.FnSplit || n.Op == api.FnAsort {
			n.Ref = between(seed, 0, arrays-1)
		}
		if n.Op == api.FnSub || n.Op == api.FnGsub {
			below(2)
			out = append(out, drawTarget(seed, levels-1, vars, arrays)...)
		} else {
			below(n.N)
		}
	}
	return append(out, n)
}

// counts: how many kids a function may have; three and more as 4.
func counts(op int) []int {
	return [][]int{nil, {1}, {2, 3}, {2}, {1, 2, 4}, {2}, {1}, {1}, {1}, {1}, {3}, {3}, {1, 2, 4}, {0}}[op]
}

// drawTarget: a drawn target of so many levels at most.
func drawTarget(seed *uint64, levels int, vars int, arrays int) []api.Node {
	if levels > 1 {
		below := drawTree(seed, levels-1, vars, arrays)
		switch between(seed, 0, 2) {
		case 0:
			return append(below, api.Node{Kind: api.NodeField, N: 1})
		case 1:
			return append(below, api.Node{Kind: api.NodeElem, Ref: between(seed, 0, arrays-1), N: 1})
		}
	}
	return []api.Node{{Kind: api.NodeVar, Ref: between(seed, 0, vars-1)}}
}

// hold: whether ParseAt answers as the model does.
func hold(t *testing.T, toks []api.Token, from int, names api.Names) api.Errno {
	t.Helper()
	want := model(toks, from, names)
	got, all, place, e := tree.ParseAt(toks, from, names)
	if place != want.place || e != want.e {
		t.Fatalf("ParseAt(%s, %d, %s): %d, %d, want %d, %d", brief(texts(toks)), from, brief(names), place, e, want.place, want.e)
	}
	if e != api.OK {
		if len(got.Nodes) != 0 || len(all.Vars)+len(all.Arrays) != 0 {
			t.Fatalf("ParseAt(%s, %d): %s, %s beside %d", brief(texts(toks)), from, brief(got), brief(all), e)
		}
		return e
	}
	if text := printed(got.Nodes, len(got.Nodes)-1, all); text != want.text || !same(all, want.names) {
		t.Fatalf("ParseAt(%s, %d, %s): %s, %s, want %s, %s", brief(texts(toks)), from, brief(names), brief(text), brief(all), brief(want.text), brief(want.names))
	}
	if place, e := tree.Check(got); place != 0 || e != api.OK || !areRight(all) || !begins(all, names) {
		t.Fatalf("ParseAt(%s, %d, %s): the tree is refused: %d, %d; the names are %s", brief(texts(toks)), from, brief(names), place, e, brief(all))
	}
	return e
}

// texts: tokens as a short text, to be looked at.
func texts(toks []api.Token) string {
	var out []string
	for _, one := range toks {
		text := one.Text
		if one.Kind == api.TokNumber {
			text = "#"
		}
		out = append(out, "enswfkol?"[min(uint(one.Kind), 8):min(uint(one.Kind), 8)+1]+":"+text)
	}
	return strings.Join(out, " ")
}
