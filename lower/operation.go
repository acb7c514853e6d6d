package lower

import "abacus/api"

// operation is the instruction that does what the node at place i does with the values of its operands.
func (w *writer) operation(i int) api.Instr {
	n := w.nodes[i]
	if which := target(n); which >= 0 {
		return change(n, w.nodes[w.kids[i][which]])
	}
	switch n.Kind {
	case api.NodeVar, api.NodeField, api.NodeElem:
		return api.Instr{Word: wordsOf(n.Kind).read, A: n.Ref}
	case api.NodeIn:
		return api.Instr{Word: api.InIn, A: n.Ref}
	case api.NodeNeg:
		return api.Instr{Word: api.InNeg}
	case api.NodePos:
		return api.Instr{Word: api.InPos}
	case api.NodeNot:
		return api.Instr{Word: api.InNot}
	case api.NodeBin:
		return api.Instr{Word: api.InBin, A: n.Op}
	case api.NodeCat:
		return api.Instr{Word: api.InCat}
	case api.NodeRel:
		return api.Instr{Word: api.InRel, A: n.Op}
	}
	return call(n)
}

// call is the instruction of a call that changes no target.
func call(n api.Node) api.Instr {
	switch n.Op {
	case api.FnSplit:
		return api.Instr{Word: api.InSplit, A: n.Ref}
	case api.FnAsort:
		return api.Instr{Word: api.InAsort, A: n.Ref}
	}
	return api.Instr{Word: api.InCall, A: n.Op, B: n.N}
}

// target tells which of a node's kids it assigns to, from 0 on; -1 if none.
func target(n api.Node) int {
	switch {
	case n.Kind == api.NodeAssign || n.Kind == api.NodeOpSet || n.Kind == api.NodeStep:
		return 0
	case n.Kind == api.NodeCall && (n.Op == api.FnSub || n.Op == api.FnGsub):
		return 2
	}
	return -1
}

// change is the instruction of a node that assigns to a target.
func change(n api.Node, to api.Node) api.Instr {
	words := wordsOf(to.Kind)
	in := api.Instr{A: to.Ref, B: n.Op}
	switch n.Kind {
	case api.NodeAssign:
		in.Word = words.set
	case api.NodeOpSet:
		in.Word = words.update
	case api.NodeStep:
		in.Word = words.step
	default:
		in.Word = words.replace
	}
	return in
}

// family: the words for all that is done to one kind of target.
type family struct {
	read    int
	set     int
	update  int
	step    int
	replace int
}

// wordsOf is the family of a kind of target.
func wordsOf(kind int) family {
	switch kind {
	case api.NodeVar:
		return family{api.InVar, api.InSetVar, api.InOpVar, api.InStepVar, api.InSubVar}
	case api.NodeField:
		return family{api.InField, api.InSetField, api.InOpField, api.InStepField, api.InSubField}
	}
	return family{api.InElem, api.InSetElem, api.InOpElem, api.InStepElem, api.InSubElem}
}
