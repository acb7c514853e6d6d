package walk

import (
	"abacus/api"
	"abacus/meaning"
	"abacus/store"
)

// target is what the branch assigns to or reads: its own kids are walked, but it isn't read or written yet.
func (b *branch) target(s *store.Store) (meaning.Target, api.Errno) {
	vals, e := values(s, b.kids)
	if e != api.OK {
		return nil, e
	}
	t := named(b.Node, vals)
	if m, ok := t.(meaning.Maker); ok {
		// What makes elements needs its key at once, ahead of what the other kids of the node do.
		if e := m.Aim(s, vals); e != api.OK {
			return nil, e
		}
	}
	return t, api.OK
}

// named is the target that a node names, with its kids' values.
func named(n api.Node, vals []api.Value) meaning.Target {
	switch n.Kind {
	case api.NodeVar:
		return meaning.Variable(n.Ref)
	case api.NodeField:
		return meaning.Field{Number: vals[0]}
	}
	return &meaning.Element{Array: n.Ref}
}

// read is the value of a variable, a field or an element.
func (b *branch) read(s *store.Store) (api.Value, api.Errno) {
	t, e := b.target(s)
	if e != api.OK {
		return api.Value{}, e
	}
	return t.Read(s)
}

// assigned is = and its kin: a target, then the right side.
func (b *branch) assigned(s *store.Store) (api.Value, api.Errno) {
	t, e := b.kids[0].target(s)
	if e != api.OK {
		return api.Value{}, e
	}
	v, e := b.kids[1].value(s)
	if e != api.OK {
		return api.Value{}, e
	}
	if b.Kind == api.NodeAssign {
		return meaning.Assign(s, t, v)
	}
	return meaning.Update(s, t, b.Op, v)
}

// stepped is ++ or --, ahead of its target or behind it.
func (b *branch) stepped(s *store.Store) (api.Value, api.Errno) {
	t, e := b.kids[0].target(s)
	if e != api.OK {
		return api.Value{}, e
	}
	return meaning.Step(s, t, b.Op)
}

// replaced is sub or gsub: what is sought, what stands in its place, a target.
func (b *branch) replaced(s *store.Store) (api.Value, api.Errno) {
	vals, e := values(s, b.kids[:2])
	if e != api.OK {
		return api.Value{}, e
	}
	t, e := b.kids[2].target(s)
	if e != api.OK {
		return api.Value{}, e
	}
	texts, e := meaning.Texts(s, vals...)
	if e != api.OK {
		return api.Value{}, e
	}
	return meaning.Replace(s, t, b.Op, texts[0], texts[1])
}
