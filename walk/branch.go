package walk

import (
	"slices"

	"abacus/api"
	"abacus/meaning"
	"abacus/reckon"
	"abacus/store"
	"abacus/value"
)

// branch is a node with its kids, so that a kid can be let by unwalked.
type branch struct {
	api.Node
	kids []*branch
}

// grown is the root of a tree that has been checked.
func grown(nodes []api.Node) *branch {
	var row []*branch // those that are no node's kids yet
	for _, n := range nodes {
		first := len(row) - n.N
		b := &branch{n, slices.Clone(row[first:])}
		row = append(row[:first], b)
	}
	return row[0]
}

// value walks the branch, and answers its value.
func (b *branch) value(s *store.Store) (api.Value, api.Errno) {
	switch b.Kind {
	case api.NodeNum:
		return value.Num(b.Num), api.OK
	case api.NodeStr:
		return value.Str(b.Str), api.OK
	case api.NodeVar, api.NodeField, api.NodeElem:
		return b.read(s)
	case api.NodeAnd, api.NodeOr:
		return b.either(s)
	case api.NodeCond:
		return b.chosen(s)
	case api.NodeAssign, api.NodeOpSet:
		return b.assigned(s)
	case api.NodeStep:
		return b.stepped(s)
	case api.NodeCall:
		return b.called(s)
	}
	return b.worked(s)
}

// values walks branches from the first to the last.
func values(s *store.Store, list []*branch) ([]api.Value, api.Errno) {
	vals := make([]api.Value, len(list))
	for i, b := range list {
		v, e := b.value(s)
		if e != api.OK {
			return nil, e
		}
		vals[i] = v
	}
	return vals, api.OK
}

// either is && or ||: the second kid is walked just if the first doesn't tell.
func (b *branch) either(s *store.Store) (api.Value, api.Errno) {
	v, e := b.kids[0].value(s)
	if e == api.OK && value.Truth(v) == (b.Kind == api.NodeAnd) {
		v, e = b.kids[1].value(s)
	}
	if e != api.OK {
		return api.Value{}, e
	}
	return reckon.Truth(v), api.OK
}

// chosen is ?: over its kids.
func (b *branch) chosen(s *store.Store) (api.Value, api.Errno) {
	v, e := b.kids[0].value(s)
	if e != api.OK {
		return api.Value{}, e
	}
	if value.Truth(v) {
		return b.kids[1].value(s)
	}
	return b.kids[2].value(s)
}

// worked is an operation that needs its kids' values alone.
func (b *branch) worked(s *store.Store) (api.Value, api.Errno) {
	vals, e := values(s, b.kids)
	if e != api.OK {
		return api.Value{}, e
	}
	switch b.Kind {
	case api.NodeIn:
		return meaning.In(s, b.Ref, vals)
	case api.NodeNeg:
		return reckon.Neg(vals[0]), api.OK
	case api.NodePos:
		return reckon.Pos(vals[0]), api.OK
	case api.NodeNot:
		return reckon.Not(vals[0]), api.OK
	case api.NodeBin:
		return reckon.Bin(b.Op, vals[0], vals[1])
	case api.NodeCat:
		return meaning.Cat(s, vals[0], vals[1])
	}
	return meaning.Rel(s, b.Op, vals[0], vals[1])
}

// called is a call of a function.
func (b *branch) called(s *store.Store) (api.Value, api.Errno) {
	if b.Op == api.FnSub || b.Op == api.FnGsub {
		return b.replaced(s)
	}
	vals, e := values(s, b.kids)
	if e != api.OK {
		return api.Value{}, e
	}
	switch b.Op {
	case api.FnSplit:
		return meaning.Split(s, b.Ref, vals[0], vals[1])
	case api.FnAsort:
		return meaning.Asort(s, b.Ref)
	}
	return meaning.Call(s, b.Op, vals)
}
