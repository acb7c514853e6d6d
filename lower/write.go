package lower

import (
	"slices"
	"strings"

	"abacus/api"
)

// writer writes a tree's code, from its beginning on.
type writer struct {
	nodes []api.Node
	kids  [][]int
	code  api.Code
}

// kidsOf tells of each node of a tree where its kids stand, the first first.
func kidsOf(nodes []api.Node) [][]int {
	kids := make([][]int, len(nodes))
	var row []int // the nodes that are no node's kids yet
	for i, n := range nodes {
		first := len(row) - n.N
		kids[i] = slices.Clone(row[first:])
		row = append(row[:first], i)
	}
	return kids
}

// node writes what puts the value of the node at place i.
func (w *writer) node(i int) {
	n := w.nodes[i]
	switch n.Kind {
	case api.NodeNum:
		w.number(n.Num)
	case api.NodeStr:
		w.text(n.Str)
	case api.NodeAnd:
		w.either(w.kids[i], api.InIfNot, 0)
	case api.NodeOr:
		w.either(w.kids[i], api.InIf, api.One)
	case api.NodeCond:
		w.choice(w.kids[i])
	default:
		w.operands(i)
		w.put(w.operation(i))
	}
}

// operands writes what puts the values that a node's operation takes. Of a kid that is a target they are its own operands: it is not read.
func (w *writer) operands(i int) {
	n := w.nodes[i]
	for k, kid := range w.kids[i] {
		if k == target(n) {
			w.operands(kid)
		} else {
			w.node(kid)
		}
	}
	if n.Kind == api.NodeElem || n.Kind == api.NodeIn {
		// A key is made at once, even of one subscript: a target's must not hang on what is done to CONVFMT behind it.
		w.put(api.Instr{Word: api.InKey, A: n.N})
	}
}

func (w *writer) put(in api.Instr) { w.code.Ops = append(w.code.Ops, in) }

func (w *writer) number(d uint64) {
	w.put(api.Instr{Word: api.InNum, A: len(w.code.Nums)})
	w.code.Nums = append(w.code.Nums, d)
}

func (w *writer) text(s string) {
	w.put(api.Instr{Word: api.InStr, A: len(w.code.Strs)})
	w.code.Strs = append(w.code.Strs, strings.Clone(s))
}
