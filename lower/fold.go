package lower

import (
	"slices"
	"strings"

	"abacus/api"
	"abacus/reckon"
	"abacus/relate"
	"abacus/value"
)

// folder turns the nodes of a tree from the first to the last, so that a node's kids are turned ahead of it.
type folder struct {
	nodes []api.Node
	ends  []int // a 0, and where each subtree ends that is no node's kid yet
}

// turn takes the next node.
func (f *folder) turn(n api.Node) {
	bounds := f.ends[len(f.ends)-1-n.N:]
	kids := make([][]api.Node, n.N)
	for k := range kids {
		kids[k] = f.nodes[bounds[k]:bounds[k+1]]
	}
	if made, ok := turned(n, kids); ok {
		f.nodes = append(f.nodes[:bounds[0]], made...)
	} else {
		f.nodes = append(f.nodes, n)
	}
	f.ends = append(f.ends[:len(f.ends)-n.N], len(f.nodes))
}

// turned is what a node becomes over its kids; false if it stays.
func turned(n api.Node, kids [][]api.Node) ([]api.Node, bool) {
	if n.Kind == api.NodeCond {
		return choice(kids)
	}
	v, ok := worth(n, kids)
	if !ok {
		return nil, false
	}
	return []api.Node{{Kind: api.NodeNum, Num: v.Num}}, true
}

// choice is what ?: becomes.
func choice(kids [][]api.Node) ([]api.Node, bool) {
	v, ok := constant(kids[0])
	switch {
	case !ok:
		return nil, false
	case value.Truth(v):
		return kids[1], true
	}
	return kids[2], true
}

// worth is the number that a node is over its kids; false if that can't be told.
func worth(n api.Node, kids [][]api.Node) (api.Value, bool) {
	if n.Kind == api.NodeAnd || n.Kind == api.NodeOr {
		return either(n.Kind, kids)
	}
	vals := make([]api.Value, len(kids))
	for k, kid := range kids {
		v, ok := constant(kid)
		if !ok {
			return api.Value{}, false
		}
		vals[k] = v
	}
	return worked(n, vals)
}

// either is && or ||, which needs its second kid just if the first doesn't tell.
func either(kind int, kids [][]api.Node) (api.Value, bool) {
	v, ok := constant(kids[0])
	if ok && value.Truth(v) == (kind == api.NodeAnd) {
		v, ok = constant(kids[1])
	}
	return reckon.Truth(v), ok
}

// worked is the number that an operation makes of constants; false if it is left to the run.
func worked(n api.Node, vals []api.Value) (api.Value, bool) {
	switch n.Kind {
	case api.NodeNeg:
		return reckon.Neg(vals[0]), true
	case api.NodePos:
		return reckon.Pos(vals[0]), true
	case api.NodeNot:
		return reckon.Not(vals[0]), true
	case api.NodeBin:
		v, e := reckon.Bin(n.Op, vals[0], vals[1])
		return v, e == api.OK
	case api.NodeRel:
		// Numbers are compared as numbers, by whatever CONVFMT.
		holds, e := relate.Holds(n.Op, vals[0], vals[1], "")
		return reckon.Bool(holds), e == api.OK
	case api.NodeCall:
		return called(n.Op, vals)
	}
	return api.Value{}, false
}

// called is a function of constants.
func called(function int, vals []api.Value) (api.Value, bool) {
	switch function {
	case api.FnInt:
		return reckon.Int(vals[0]), true
	case api.FnSqrt:
		return reckon.Sqrt(vals[0]), true
	}
	return api.Value{}, false
}

// constant is the value of a subtree that is a number alone.
func constant(nodes []api.Node) (api.Value, bool) {
	if len(nodes) != 1 || nodes[0].Kind != api.NodeNum {
		return api.Value{}, false
	}
	return value.Num(nodes[0].Num), true
}

// owned is a copy of nodes that shares no text with them.
func owned(nodes []api.Node) []api.Node {
	list := slices.Clone(nodes)
	for i := range list {
		list[i].Str = strings.Clone(list[i].Str)
	}
	return list
}
