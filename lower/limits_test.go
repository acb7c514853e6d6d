package lower_test

import (
	"slices"
	"testing"

	"abacus/api"
	"abacus/lower"
	"abacus/tree"
)

// P28.1: nodes that are no tree are refused by both calls as tree.Check refuses them, and nothing is answered beside that.
func TestWrongTrees(t *testing.T) {
	number, steps := api.Node{Kind: api.NodeNum}, api.Node{Kind: api.NodeStep, Op: api.IncAfter, N: 1}
	deep := numNode(1)
	for range api.MaxDepth {
		deep = append(deep, api.Node{Kind: api.NodeNeg, N: 1})
	}
	rows := map[string][]api.Node{
		"nothing": nil, "two trees": {number, number}, "no kids": {{Kind: api.NodeBin, Op: api.OpAdd, N: 2}}, "an unknown kind": {{Kind: 99}}, "kind 0": {{}}, "a kind below 0": {{Kind: -1}},
		"an unknown operator": {number, number, {Kind: api.NodeBin, Op: 7, N: 2}}, "an unknown relation": {number, number, {Kind: api.NodeRel, N: 2}}, "an unknown function": {number, {Kind: api.NodeCall, Op: 14, N: 1}}, "too few arguments": {number, {Kind: api.NodeCall, Op: api.FnIndex, N: 1}},
		"kids below 0": {{Kind: api.NodeElem, N: -1}}, "no subscript": {{Kind: api.NodeElem}}, "a wrong variable": {{Kind: api.NodeVar, Ref: api.MaxVars}}, "a wrong array": {number, {Kind: api.NodeElem, Ref: -1, N: 1}},
		"an unused field": {{Kind: api.NodeStr, Num: 1}}, "a number with a text": {{Kind: api.NodeNum, Str: "1"}}, "a number as target": {number, steps}, "a sum as target": {number, number, {Kind: api.NodeAssign, N: 2}},
		"a constant that would be none": {number, {Kind: api.NodeVar}, {Kind: api.NodeStr}, {Kind: api.NodeCond, N: 3}, steps},
		"a fault behind a tree":         {number, {Kind: api.NodeNeg, N: 1}, {Kind: api.NodeNeg, N: 2}},
		"too deep":                      deep, "too many": make([]api.Node, api.MaxNodes+1),
	}
	for what, nodes := range rows {
		e := api.Tree{Nodes: nodes}
		_, want := tree.Check(e)
		c, err := lower.Compile(e)
		if err != want || err == api.OK || len(c.Ops)+len(c.Nums)+len(c.Strs) > 0 {
			t.Errorf("Compile of %s: %s, error %d, want %d", what, brief(c), err, want)
		}
		f, err := lower.Fold(e)
		if err != want || len(f.Nodes) > 0 {
			t.Errorf("Fold of %s: %s, error %d, want %d", what, brief(f), err, want)
		}
	}
	for what, want := range map[string]api.Errno{"nothing": api.ErrTree, "too deep": api.ErrDepth, "too many": api.ErrNodes} {
		if _, e := lower.Compile(api.Tree{Nodes: rows[what]}); e != want {
			t.Errorf("%s: error %d, want %d", what, e, want)
		}
	}
}

// chain: a tree of so many levels, each node over the one below and, as kids beside it, others; side is ahead of it.
func chain(n api.Node, levels int, ahead [][]api.Node, leaf []api.Node, behind [][]api.Node) []api.Node {
	made := slices.Clone(leaf)
	n.N = len(ahead) + 1 + len(behind)
	first, rest := slices.Concat(ahead...), slices.Concat(behind...)
	for range levels - 1 {
		made = slices.Concat(first, made, rest, []api.Node{n})
	}
	return made
}

// P28.1, P28.2, P28.3, P28.4: trees as deep as they may be, leaning to either side, of variables and of constants.
func TestDeepTrees(t *testing.T) {
	v, k := varNode(y), numNode(1)
	for _, n := range []api.Node{
		{Kind: api.NodeAnd}, {Kind: api.NodeOr}, {Kind: api.NodeCat}, {Kind: api.NodeBin, Op: api.OpAdd}, {Kind: api.NodeRel, Op: api.LE}, {Kind: api.NodeElem}, {Kind: api.NodeIn, Ref: 1}, {Kind: api.NodeCall, Op: api.FnSum}, {Kind: api.NodeCall, Op: api.FnIndex},
	} {
		for _, kid := range [][]api.Node{v, k, strNode("")} {
			for _, bottom := range [][]api.Node{v, k, numNode(0)} {
				holdWalk(t, n, api.Tree{Nodes: chain(n, api.MaxDepth, nil, bottom, [][]api.Node{kid})}, made(set(y, num(2))).Dump())
				holdWalk(t, n, api.Tree{Nodes: chain(n, api.MaxDepth, [][]api.Node{kid}, bottom, nil)}, made(set(y, num(2))).Dump())
			}
		}
	}
	for _, n := range []api.Node{{Kind: api.NodeNeg}, {Kind: api.NodeNot}, {Kind: api.NodeField}, {Kind: api.NodeElem}, {Kind: api.NodeCall, Op: api.FnInt}, {Kind: api.NodeCall, Op: api.FnLength}} {
		for _, bottom := range [][]api.Node{v, k} {
			holdWalk(t, n, api.Tree{Nodes: chain(n, api.MaxDepth, nil, bottom, nil)}, made(set(y, num(2))).Dump())
		}
	}
	cond := api.Node{Kind: api.NodeCond}
	for _, one := range [][]api.Node{v, k, numNode(0)} {
		for _, other := range [][]api.Node{v, k, numNode(0)} {
			st := made(set(y, num(2))).Dump()
			holdWalk(t, "? at the front", api.Tree{Nodes: chain(cond, api.MaxDepth, nil, v, [][]api.Node{one, other})}, st)
			holdWalk(t, "? in the midst", api.Tree{Nodes: chain(cond, api.MaxDepth, [][]api.Node{one}, v, [][]api.Node{other})}, st)
			holdWalk(t, "? at the end", api.Tree{Nodes: chain(cond, api.MaxDepth, [][]api.Node{one, other}, v, nil)}, st)
		}
	}
	holdWalk(t, "assignments", api.Tree{Nodes: chain(api.Node{Kind: api.NodeAssign}, api.MaxDepth, [][]api.Node{v}, k, nil)}, begun().Dump())
}

// wide: a node over so many kids.
func wide(n api.Node, count int, kid []api.Node) []api.Node {
	n.N = count
	return append(slices.Repeat(kid, count), n)
}

// P28.1, P28.2, P28.3: trees of as many nodes as they may have, in all of which an instruction takes as many values as there can be.
func TestWideTrees(t *testing.T) {
	count := api.MaxNodes - 1
	for _, n := range []api.Node{{Kind: api.NodeElem}, {Kind: api.NodeIn}, {Kind: api.NodeCall, Op: api.FnSum}, {Kind: api.NodeCall, Op: api.FnSprintf}} {
		for _, kid := range [][]api.Node{numNode(1), strNode("k"), varNode(y)} {
			e := api.Tree{Nodes: wide(n, count, kid)}
			holdWalk(t, n, e, begun().Dump())
			if f := folded(t, n, e); !slices.Equal(f.Nodes, e.Nodes) {
				t.Errorf("Fold of %+v: %s", n, brief(f))
			}
		}
	}
	sum := wide(api.Node{Kind: api.NodeCall, Op: api.FnSum}, (count-2)/2, append(numNode(3), api.Node{Kind: api.NodeNeg, N: 1}))
	e := api.Tree{Nodes: append(sum, api.Node{Kind: api.NodeCall, Op: api.FnInt, N: 1})}
	holdWalk(t, "a sum of turned numbers", e, begun().Dump())
	if f := folded(t, "a sum of turned numbers", e); len(f.Nodes) != (count-2)/2+2 {
		t.Errorf("%d nodes are left", len(f.Nodes))
	}
	// The most instructions a node: nothing but && and ||, halved level by level.
	for _, leaf := range [][]api.Node{varNode(y), varNode(x), numNode(0), numNode(1)} {
		holdWalk(t, "halves", api.Tree{Nodes: halves((api.MaxNodes+1)/2, leaf)}, made(set(x, num(1))).Dump())
	}
}

// halves: && and || in turn over so many leaves.
func halves(leaves int, leaf []api.Node) []api.Node {
	if leaves == 1 {
		return leaf
	}
	return over(api.Node{Kind: api.NodeAnd + leaves%2}, halves(leaves/2, leaf), halves(leaves-leaves/2, leaf))
}

// P28.1, P28.2: numbers of any bits, texts of any bytes and lengths, all variables and arrays.
func TestLeaves(t *testing.T) {
	for _, d := range doubles() {
		hold(t, d, api.Tree{Nodes: patternNode(d)}, begun().Dump(), answer{pattern(d), api.OK}, begun().Dump())
	}
	for _, text := range []string{"", "10", "a\x00\xff\n\"", row(most), row(most + 1)} {
		hold(t, "a text", api.Tree{Nodes: strNode(text)}, begun().Dump(), answer{str(text), api.OK}, begun().Dump())
		if f := folded(t, "a text", api.Tree{Nodes: strNode(text)}); !slices.Equal(f.Nodes, strNode(text)) {
			t.Errorf("Fold of a text: %s", brief(f))
		}
	}
	for i := range api.MaxVars {
		holdWalk(t, "a variable", api.Tree{Nodes: over(api.Node{Kind: api.NodeCat}, varNode(i), varNode(api.MaxVars-1-i))}, made(set(i, str("3"))).Dump())
		holdWalk(t, "a variable that is written", api.Tree{Nodes: let(i, numNode(4))}, begun().Dump())
	}
	for a := range api.MaxArrays {
		read := over(api.Node{Kind: api.NodeElem, Ref: a}, strNode("k"))
		in := over(api.Node{Kind: api.NodeIn, Ref: a}, strNode("k"))
		st := made(elem(a, "k", strnum(8, "9"))).Dump()
		hold(t, "an array", api.Tree{Nodes: over(api.Node{Kind: api.NodeCat}, read, in)}, st, answer{str("91"), api.OK}, st)
		for _, n := range []api.Node{{Kind: api.NodeCall, Op: api.FnSplit, Ref: a, N: 2}, {Kind: api.NodeCall, Op: api.FnAsort, Ref: a}} {
			holdWalk(t, n, api.Tree{Nodes: append(slices.Repeat(strNode("b a"), n.N), n)}, st)
		}
	}
}
