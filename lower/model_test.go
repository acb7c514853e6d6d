package lower_test

import (
	"math"
	"slices"
	"testing"

	"abacus/api"
	"abacus/store"
	"abacus/tree"
	"abacus/value"
	"abacus/walk"
)

// twig: a node with its kids, for the model of Fold.
type twig struct {
	node api.Node
	kids []*twig
}

// grown: the twig that these nodes are; its kids are taken from behind.
func grown(nodes []api.Node) *twig {
	at := len(nodes)
	var take func() *twig
	take = func() *twig {
		at--
		w := &twig{node: nodes[at], kids: make([]*twig, nodes[at].N)}
		for i := range w.kids {
			w.kids[len(w.kids)-1-i] = take()
		}
		return w
	}
	return take()
}

// flat: a twig's nodes.
func (w *twig) flat() []api.Node {
	var list []api.Node
	for _, kid := range w.kids {
		list = append(list, kid.flat()...)
	}
	return append(list, w.node)
}

func (w *twig) isNumber() bool { return w.node.Kind == api.NodeNum }

// truth: whether a number counts as true.
func (w *twig) truth() bool { return w.node.Num&^api.Sign != 0 }

// number: a twig that is this number.
func number(d uint64) *twig { return &twig{node: api.Node{Kind: api.NodeNum, Num: d}} }

// fold: what the chapter's rules make of a twig. What an operation over constants gives is asked of the walk.
func (w *twig) fold() *twig {
	constants := len(w.kids) > 0
	for i, kid := range w.kids {
		w.kids[i] = kid.fold()
		constants = constants && w.kids[i].isNumber()
	}
	n := w.node
	switch {
	case constants && (n.Kind >= api.NodeNeg && n.Kind <= api.NodeBin || n.Kind == api.NodeRel || n.Kind == api.NodeCall && (n.Op == api.FnInt || n.Op == api.FnSqrt)):
		if v, _, e := walk.EvalState(api.Tree{Nodes: w.flat()}, api.State{}); e == api.OK {
			return number(v.Num)
		}
	case n.Kind == api.NodeAnd && w.kids[0].isNumber():
		switch {
		case !w.kids[0].truth(), constants && !w.kids[1].truth():
			return number(0)
		case constants:
			return number(api.One)
		}
	case n.Kind == api.NodeOr && w.kids[0].isNumber():
		switch {
		case w.kids[0].truth(), constants && w.kids[1].truth():
			return number(api.One)
		case constants:
			return number(0)
		}
	case n.Kind == api.NodeCond && w.kids[0].isNumber():
		if w.kids[0].truth() {
			return w.kids[1]
		}
		return w.kids[2]
	}
	return w
}

// drawText: a short text, which may look like a number, a format or a field's separator.
func drawText(seed *uint64) string {
	return pick(seed, "", "0", "1", "2", "10", " 3 ", "0.5", "-1", "1e3", "a", "b", "ab", "aab", "a b a", "-", ",", "1,2,a", " ", "x y z", "%s", "%d|%s", "%.2f", "%c%%", "5%", "\x00\xff", "nan", "3x")
}

// drawNumber: a number as it stands in scripts, now and then a strange one.
func drawNumber(seed *uint64) float64 {
	if between(seed, 0, 19) == 0 {
		return pick(seed, math.NaN(), math.Inf(1), math.Inf(-1), math.Copysign(0, -1), 1e300, -1e300, 1<<53, 1<<63, 5e-324, last, last+1, 1025)
	}
	return float64(between(seed, -4, 12)) / pick(seed, 1.0, 1, 1, 1, 2, 10)
}

// drawValue: a value of any kind.
func drawValue(seed *uint64) api.Value {
	text := drawText(seed)
	return pick(seed, none, num(drawNumber(seed)), num(drawNumber(seed)), str(text), value.Input(text), strnum(drawNumber(seed), text))
}

// drawVariable: a variable of the script's own, or one that has a meaning.
func drawVariable(seed *uint64) int {
	return pick(seed, x, x, x, y, y, z, api.VarNf, api.VarNf, api.VarConvfmt, api.VarSubsep, api.VarFs, api.VarOfs, api.VarNr)
}

// drawState: a state with values for the variables that are drawn, two arrays and a record.
func drawState(seed *uint64) api.State {
	s := store.New()
	s.SetVar(api.VarConvfmt, pick(seed, str("%.6g"), str("%.6g"), str("%.2f"), str("<%.1e>"), str("%d"), num(0.5), none))
	s.SetVar(api.VarSubsep, pick(seed, str("\x1c"), str("\x1c"), str("-"), str(""), num(0.5)))
	s.SetVar(api.VarFs, pick(seed, str(" "), str(" "), str(","), str(""), num(1)))
	s.SetVar(api.VarOfs, pick(seed, str(" "), str(" "), str("-"), num(0.25)))
	for i := x; i <= z; i++ {
		s.SetVar(i, drawValue(seed))
	}
	for array := range 2 {
		for range between(seed, 0, 4) {
			s.SetElem(array, pick(seed, "", "1", "2", "0.5", "a", "1\x1c2"), drawValue(seed))
		}
	}
	s.SetField(0, str(pick(seed, "", "10 abc", "a,b 3", "  1 2  a ", "x")))
	if between(seed, 0, 2) == 0 {
		s.SetField(between(seed, 1, 4), drawValue(seed))
	}
	return s.Dump()
}

// drawTarget: a target of so many levels at most.
func drawTarget(seed *uint64, levels int) []api.Node {
	if levels > 1 {
		switch between(seed, 0, 3) {
		case 0:
			number := pick(seed, numNode(0), numNode(1), numNode(1), numNode(2), numNode(3), varNode(api.VarNf), drawTree(seed, levels-1))
			return over(api.Node{Kind: api.NodeField}, number)
		case 1:
			return over(api.Node{Kind: api.NodeElem, Ref: between(seed, 0, 1)}, drawTrees(seed, levels-1, pick(seed, 1, 1, 1, 2))...)
		}
	}
	return varNode(drawVariable(seed))
}

// drawTrees: so many trees.
func drawTrees(seed *uint64, levels int, count int) [][]api.Node {
	var list [][]api.Node
	for range count {
		list = append(list, drawTree(seed, levels-between(seed, 0, 1)))
	}
	return list
}

// drawLeaf: a tree of one node.
func drawLeaf(seed *uint64) []api.Node {
	number := numNode(drawNumber(seed))
	return pick(seed, number, number, number, strNode(drawText(seed)), varNode(drawVariable(seed)), varNode(drawVariable(seed)))
}

// drawTree: a tree of so many levels at most.
func drawTree(seed *uint64, levels int) []api.Node {
	if levels <= 1 {
		return drawLeaf(seed)
	}
	below := func(count int) [][]api.Node { return drawTrees(seed, levels-1, count) }
	n := api.Node{Kind: between(seed, api.NodeVar, api.NodeCall)}
	switch n.Kind {
	case api.NodeVar, api.NodeField, api.NodeElem:
		return drawTarget(seed, levels)
	case api.NodeIn:
		n.Ref = between(seed, 0, 1)
		return over(n, below(between(seed, 1, 2))...)
	case api.NodeNeg, api.NodePos, api.NodeNot:
		return over(n, below(1)...)
	case api.NodeCond:
		return over(n, below(3)...)
	case api.NodeAssign, api.NodeOpSet:
		if n.Kind == api.NodeOpSet {
			n.Op = drawOperator(seed)
		}
		return over(n, drawTarget(seed, levels-1), below(1)[0])
	case api.NodeStep:
		n.Op = between(seed, api.IncBefore, api.DecAfter)
		return over(n, drawTarget(seed, levels-1))
	case api.NodeCall:
		return drawCall(seed, levels)
	case api.NodeBin:
		n.Op = drawOperator(seed)
	case api.NodeRel:
		n.Op = between(seed, api.LT, api.GE)
	}
	return over(n, below(2)...)
}

// drawOperator: an operator, now and then one that may be refused.
func drawOperator(seed *uint64) int {
	return pick(seed, api.OpAdd, api.OpAdd, api.OpSub, api.OpSub, api.OpMul, api.OpMul, api.OpDiv, api.OpMod, api.OpPow)
}

// drawCall: a call of a function.
func drawCall(seed *uint64, levels int) []api.Node {
	n := api.Node{Kind: api.NodeCall, Op: between(seed, api.FnLength, api.FnAsort)}
	below := func(count int) [][]api.Node { return drawTrees(seed, levels-1, count) }
	switch n.Op {
	case api.FnSubstr:
		return over(n, below(between(seed, 2, 3))...)
	case api.FnSprintf:
		format := pick(seed, strNode(drawText(seed)), strNode("%s|%d"), strNode(pick(seed, "%", "%y", "%c%5.1f")), below(1)[0])
		return over(n, append([][]api.Node{format}, below(between(seed, 0, 3))...)...)
	case api.FnSum:
		return over(n, below(between(seed, 1, 4))...)
	case api.FnIndex:
		return over(n, below(2)...)
	case api.FnSplit:
		n.Ref = between(seed, 0, 1)
		return over(n, below(2)...)
	case api.FnAsort:
		n.Ref = between(seed, 0, 1)
		return over(n)
	case api.FnSub, api.FnGsub:
		return over(n, below(1)[0], below(1)[0], drawTarget(seed, levels-1))
	}
	return over(n, below(1)...)
}

// P28.1, P28.2, P28.3, P28.4: drawn trees over drawn states: the code means what the walk tells, Fold makes what the rules make, and that means the same.
func TestDrawn(t *testing.T) {
	seed := uint64(28)
	ends, smaller := map[api.Errno]int{}, 0
	for range 25000 {
		e := api.Tree{Nodes: drawTree(&seed, between(&seed, 2, 6))}
		if _, err := tree.Check(e); err != api.OK {
			t.Fatalf("%s was drawn: error %d", brief(e), err)
		}
		st := drawState(&seed)
		ends[holdWalk(t, []any{e, st}, e, st).e]++
		f := folded(t, e, e)
		if want := grown(e.Nodes).fold().flat(); !slices.Equal(f.Nodes, want) {
			t.Fatalf("Fold of %s: %s, want %s", brief(e), brief(f), brief(want))
		}
		if len(f.Nodes) < len(e.Nodes) {
			smaller++
		}
	}
	for _, e := range []api.Errno{api.OK, api.ErrConv, api.ErrField, api.ErrDivide, api.ErrPower, api.ErrFew, api.ErrVerb, api.ErrEnds} {
		if ends[e] < 20 {
			t.Errorf("error %d came %d times", e, ends[e])
		}
	}
	if ends[api.OK] < 15000 || smaller < 5000 {
		t.Errorf("%d trees had a value, %d became smaller", ends[api.OK], smaller)
	}
}

// drawConstants: a tree of so many levels at most, of operations that constants may let fall away, with but a few leaves that are none.
func drawConstants(seed *uint64, levels int) []api.Node {
	if levels <= 1 {
		one := numNode(pick(seed, 0.0, 0, 1, 1, -1, 2, 0.5, drawNumber(seed)))
		return pick(seed, one, one, one, one, one, one, varNode(x), strNode(drawText(seed)))
	}
	below := func(count int) (list [][]api.Node) {
		for range count {
			list = append(list, drawConstants(seed, levels-between(seed, 1, 2)))
		}
		return list
	}
	switch n := (api.Node{Kind: pick(seed, api.NodeNeg, api.NodePos, api.NodeNot, api.NodeBin, api.NodeBin, api.NodeRel, api.NodeAnd, api.NodeAnd, api.NodeOr, api.NodeOr, api.NodeCond, api.NodeCond, api.NodeCond, api.NodeAssign, api.NodeCall)}); n.Kind {
	case api.NodeNeg, api.NodePos, api.NodeNot:
		return over(n, below(1)...)
	case api.NodeBin, api.NodeRel:
		n.Op = between(seed, 1, 6)
		return over(n, below(2)...)
	case api.NodeCond:
		return over(n, below(3)...)
	case api.NodeAssign:
		return let(x, below(1)[0])
	case api.NodeCall:
		n.Op = pick(seed, api.FnInt, api.FnSqrt, api.FnLength)
		return over(n, below(1)...)
	default:
		return over(n, below(2)...)
	}
}

// P28.2, P28.3, P28.4: drawn trees of constants above all.
func TestDrawnConstants(t *testing.T) {
	seed := uint64(282)
	left := map[int]int{}
	for range 15000 {
		e := api.Tree{Nodes: drawConstants(&seed, between(&seed, 2, 8))}
		st := made(set(x, drawValue(&seed))).Dump()
		holdWalk(t, []any{e, st}, e, st)
		f := folded(t, e, e)
		if want := grown(e.Nodes).fold().flat(); !slices.Equal(f.Nodes, want) {
			t.Fatalf("Fold of %s: %s, want %s", brief(e), brief(f), brief(want))
		}
		left[min(len(f.Nodes), 10)]++
	}
	for _, count := range []int{1, 2, 3, 5, 10} {
		if left[count] < 100 {
			t.Errorf("%d nodes were left %d times", count, left[count])
		}
	}
}
