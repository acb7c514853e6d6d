package tree

import "abacus/api"

// many: more kids than a tree, and more arguments than an expression, can have.
const many = api.MaxToks

// rule: what the fields of a node may hold, and which of its kids must be a target.
type rule struct {
	ops    int // Op is 1 to ops; 0 if there are none
	refs   int // Ref is 0 to refs
	least  int // N is least to most
	most   int
	num    bool // Num may be anything, else 0
	str    bool // Str may be anything, else ""
	target int  // which kid is a target, counted from 1 on; 0 if none
}

// ruleOf is the rule of a node; of an unknown Kind or function it lets nothing by.
func ruleOf(n api.Node) rule {
	switch n.Kind {
	case api.NodeNum:
		return rule{num: true}
	case api.NodeStr:
		return rule{str: true}
	case api.NodeVar:
		return rule{refs: api.MaxVars - 1}
	case api.NodeElem, api.NodeIn:
		return rule{refs: api.MaxArrays - 1, least: 1, most: many}
	case api.NodeField, api.NodeNeg, api.NodePos, api.NodeNot:
		return rule{least: 1, most: 1}
	case api.NodeCat, api.NodeAnd, api.NodeOr:
		return rule{least: 2, most: 2}
	case api.NodeBin:
		return rule{ops: api.OpPow, least: 2, most: 2}
	case api.NodeRel:
		return rule{ops: api.GE, least: 2, most: 2}
	case api.NodeCond:
		return rule{least: 3, most: 3}
	case api.NodeAssign:
		return rule{least: 2, most: 2, target: 1}
	case api.NodeOpSet:
		return rule{ops: api.OpPow, least: 2, most: 2, target: 1}
	case api.NodeStep:
		return rule{ops: api.DecAfter, least: 1, most: 1, target: 1}
	case api.NodeCall:
		return callRule(n.Op)
	}
	return nothing()
}

// callRule is the rule of a call of a function.
func callRule(function int) rule {
	r := rule{ops: api.FnAsort}
	switch function {
	case api.FnLength, api.FnInt, api.FnSqrt, api.FnToupper, api.FnTolower:
		r.least, r.most = 1, 1
	case api.FnSubstr:
		r.least, r.most = 2, 3
	case api.FnIndex:
		r.least, r.most = 2, 2
	case api.FnSprintf, api.FnSum:
		r.least, r.most = 1, many
	case api.FnSplit:
		r.least, r.most, r.refs = 2, 2, api.MaxArrays-1
	case api.FnSub, api.FnGsub:
		r.least, r.most, r.target = 3, 3, 3
	case api.FnAsort:
		r.refs = api.MaxArrays - 1
	default:
		return nothing()
	}
	return r
}

// nothing is a rule that no node fits: no N is both at least 1 and at most 0.
func nothing() rule { return rule{least: 1} }

// subtree: what is told of a whole subtree by its root.
type subtree struct {
	kind  int
	depth int
}

// look goes through nodes as Check does: the root's depth, or the place of the first fault and its error.
func look(nodes []api.Node) (int, int, api.Errno) {
	if len(nodes) > api.MaxNodes {
		return 0, api.MaxNodes, api.ErrNodes
	}
	var row []subtree // those that are no node's kids yet
	deep := len(nodes)
	for i, n := range nodes {
		if !stands(n, row) {
			return 0, i, api.ErrTree
		}
		kids := row[len(row)-n.N:]
		made := subtree{n.Kind, 1 + deepest(kids)}
		if made.depth > api.MaxDepth {
			deep = min(deep, i)
		}
		row = append(row[:len(row)-n.N], made)
	}
	switch {
	case len(row) != 1:
		return 0, len(nodes), api.ErrTree
	case deep < len(nodes):
		return 0, deep, api.ErrDepth
	}
	return row[0].depth, 0, api.OK
}

// stands tells whether a node is right behind these subtrees, the last of which are its kids.
func stands(n api.Node, row []subtree) bool {
	r := ruleOf(n)
	if !fits(n, r) || n.N > len(row) {
		return false
	}
	return r.target == 0 || isTarget(row[len(row)-n.N+r.target-1].kind)
}

// fits tells whether a node's fields hold what a rule lets them.
func fits(n api.Node, r rule) bool {
	return within(n.Op, min(1, r.ops), r.ops) && within(n.Ref, 0, r.refs) && within(n.N, r.least, r.most) &&
		(r.num || n.Num == 0) && (r.str || n.Str == "")
}

func within(x int, low int, high int) bool { return low <= x && x <= high }

func isTarget(kind int) bool { return within(kind, api.NodeVar, api.NodeElem) }

// deepest is the depth of the deepest of some subtrees; 0 if there are none.
func deepest(row []subtree) int {
	depth := 0
	for _, one := range row {
		depth = max(depth, one.depth)
	}
	return depth
}
