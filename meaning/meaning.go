// Package meaning is what the operations of expressions do, over values and a store; those that need no store stand in package reckon. The document says it once (shared/doc/25-walk.md) for all layers that carry expressions out, and so it stands here once.
//
// Operators, steps and functions are those of a tree or a code that has been checked.
package meaning

import (
	"abacus/api"
	"abacus/chars"
	"abacus/ieee"
	"abacus/reckon"
	"abacus/relate"
	"abacus/store"
	"abacus/value"
)

// Count is a count as a number.
func Count(n int) api.Value { return value.Num(ieee.FromInt(int64(n))) }

// Text is the text of a value by CONVFMT as it is now; ErrConv, ErrLong.
func Text(s *store.Store, v api.Value) (string, api.Errno) {
	convfmt, e := s.Setting(api.VarConvfmt)
	if e != api.OK {
		return "", e
	}
	return value.ToStr(v, convfmt)
}

// Texts are the texts of values, and the first error of one that has none.
func Texts(s *store.Store, vals ...api.Value) ([]string, api.Errno) {
	convfmt, e := s.Setting(api.VarConvfmt)
	if e != api.OK {
		return nil, e
	}
	texts := make([]string, len(vals))
	for i, v := range vals {
		if texts[i], e = value.ToStr(v, convfmt); e != api.OK {
			return nil, e
		}
	}
	return texts, api.OK
}

// Key is the key that subscripts make; the errors of their texts, SUBSEP's, ErrLong. One subscript has no limit.
func Key(s *store.Store, subscripts []api.Value) (string, api.Errno) {
	texts, e := Texts(s, subscripts...)
	if e != api.OK {
		return "", e
	}
	if len(texts) == 1 {
		return texts[0], api.OK
	}
	between, e := s.Setting(api.VarSubsep)
	if e != api.OK {
		return "", e
	}
	return chars.Join(texts, between)
}

// In tells whether an array has an element at the key that subscripts make; Key's errors.
func In(s *store.Store, array int, subscripts []api.Value) (api.Value, api.Errno) {
	key, e := Key(s, subscripts)
	if e != api.OK {
		return api.Value{}, e
	}
	has, e := s.Has(array, key)
	if e != api.OK {
		return api.Value{}, e
	}
	return reckon.Bool(has), api.OK
}

// Cat is the texts of v and w, one behind the other; their errors, ErrLong.
func Cat(s *store.Store, v api.Value, w api.Value) (api.Value, api.Errno) {
	texts, e := Texts(s, v, w)
	if e != api.OK {
		return api.Value{}, e
	}
	text, e := chars.Cat(texts...)
	if e != api.OK {
		return api.Value{}, e
	}
	return value.Str(text), api.OK
}

// Rel tells whether a relation holds of v and w; ErrConv, ErrLong.
func Rel(s *store.Store, op int, v api.Value, w api.Value) (api.Value, api.Errno) {
	convfmt, e := s.Setting(api.VarConvfmt)
	if e != api.OK {
		return api.Value{}, e
	}
	holds, e := relate.Holds(op, v, w, convfmt)
	if e != api.OK {
		return api.Value{}, e
	}
	return reckon.Bool(holds), api.OK
}
