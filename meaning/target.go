package meaning

import (
	"abacus/api"
	"abacus/chars"
	"abacus/ieee"
	"abacus/reckon"
	"abacus/soft"
	"abacus/store"
	"abacus/value"
)

// Target is what can be assigned to: a Variable, a Field or an Element.
type Target interface {
	Read(s *store.Store) (api.Value, api.Errno)
	Write(s *store.Store, v api.Value) api.Errno
}

// Maker is a target that makes an element where there is none. It goes by a key, which Aim makes of its subscripts ahead of the first Read or Write: CONVFMT and SUBSEP may be others by then.
type Maker interface {
	Target
	Aim(s *store.Store, subscripts []api.Value) api.Errno
}

// Variable is the one of this number.
type Variable int

// Read is the variable's value.
func (t Variable) Read(s *store.Store) (api.Value, api.Errno) { return s.Var(int(t)) }

// Write lets the variable be v.
func (t Variable) Write(s *store.Store, v api.Value) api.Errno { return s.SetVar(int(t), v) }

// Field is the one that a value's number names. It is asked for its place no sooner than it is read or written, since other errors come ahead of an ErrField.
type Field struct{ Number api.Value }

// place is the field's number, cut; ErrField.
func (t Field) place() (int, api.Errno) {
	i, e := ieee.ToInt(value.ToNum(t.Number))
	if e != api.OK || i < 0 || i > api.MaxFields {
		return 0, api.ErrField
	}
	return int(i), api.OK
}

// Read is the field's value; ErrField.
func (t Field) Read(s *store.Store) (api.Value, api.Errno) {
	i, e := t.place()
	if e != api.OK {
		return api.Value{}, e
	}
	return s.Field(i)
}

// Write lets the field be v; ErrField, and what the store answers.
func (t Field) Write(s *store.Store, v api.Value) api.Errno {
	i, e := t.place()
	if e != api.OK {
		return e
	}
	return s.SetField(i, v)
}

// Element is the one of an array at the key that Aim made.
type Element struct {
	Array int
	key   string
}

// Aim makes the element's key; Key's errors.
func (t *Element) Aim(s *store.Store, subscripts []api.Value) api.Errno {
	key, e := Key(s, subscripts)
	t.key = key
	return e
}

// Read is the element's value; one that isn't there is made.
func (t *Element) Read(s *store.Store) (api.Value, api.Errno) { return s.Elem(t.Array, t.key) }

// Write lets the element be v.
func (t *Element) Write(s *store.Store, v api.Value) api.Errno { return s.SetElem(t.Array, t.key, v) }

// Assign writes v into a target, and answers v itself, whatever the target makes of it.
func Assign(s *store.Store, t Target, v api.Value) (api.Value, api.Errno) {
	if e := t.Write(s, v); e != api.OK {
		return api.Value{}, e
	}
	return v, api.OK
}

// Update writes into a target the number that an operator makes of what it was and of v, and answers that number; ErrDivide and ErrPower come ahead of the writing.
func Update(s *store.Store, t Target, op int, v api.Value) (api.Value, api.Errno) {
	old, e := t.Read(s)
	if e != api.OK {
		return api.Value{}, e
	}
	made, e := reckon.Bin(op, old, v)
	if e != api.OK {
		return api.Value{}, e
	}
	return Assign(s, t, made)
}

// Step counts a target up or down by one, and answers the number that it was or that it is.
func Step(s *store.Store, t Target, op int) (api.Value, api.Errno) {
	old, e := t.Read(s)
	if e != api.OK {
		return api.Value{}, e
	}
	x := value.ToNum(old)
	y := soft.Add(x, api.One)
	if op == api.DecBefore || op == api.DecAfter {
		y = soft.Sub(x, api.One)
	}
	made, e := Assign(s, t, value.Num(y))
	if e != api.OK || op == api.IncBefore || op == api.DecBefore {
		return made, e
	}
	return value.Num(x), api.OK
}

// Replace is sub and gsub over a target: how often old was replaced by with. Where it wasn't, nothing is written.
func Replace(s *store.Store, t Target, function int, old string, with string) (api.Value, api.Errno) {
	v, e := t.Read(s)
	if e != api.OK {
		return api.Value{}, e
	}
	text, e := Text(s, v)
	if e != api.OK {
		return api.Value{}, e
	}
	most := -1
	if function == api.FnSub {
		most = 1
	}
	made, n, e := chars.Replace(text, old, with, most)
	if e == api.OK && n > 0 {
		e = t.Write(s, value.Str(made))
	}
	if e != api.OK {
		return api.Value{}, e
	}
	return Count(n), api.OK
}
