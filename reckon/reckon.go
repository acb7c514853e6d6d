// Package reckon is what those operations of expressions do that need their values alone: no store, and no CONVFMT. The document says it in shared/doc/25-walk.md; it stands here once, for package meaning, which carries expressions out, and for package lower, which works constants out ahead of that.
//
// Operators are those of a tree or a code that has been checked.
package reckon

import (
	"abacus/api"
	"abacus/remain"
	"abacus/soft"
	"abacus/value"
)

// Bool is 1 or 0.
func Bool(holds bool) api.Value {
	if holds {
		return value.Num(api.One)
	}
	return value.Num(0)
}

// Truth is 1 if v counts as true, else 0.
func Truth(v api.Value) api.Value { return Bool(value.Truth(v)) }

// Not is 1 if v counts as false, else 0.
func Not(v api.Value) api.Value { return Bool(!value.Truth(v)) }

// Neg is the number of v with its sign turned, a NaN's too.
func Neg(v api.Value) api.Value { return value.Num(value.ToNum(v) ^ api.Sign) }

// Pos is the number of v.
func Pos(v api.Value) api.Value { return value.Num(value.ToNum(v)) }

// Int is the number of v, cut.
func Int(v api.Value) api.Value { return value.Num(remain.Trunc(value.ToNum(v))) }

// Sqrt is the root of the number of v.
func Sqrt(v api.Value) api.Value { return value.Num(soft.Sqrt(value.ToNum(v))) }

// Bin is the number that an operator makes of the numbers of v and w; ErrDivide, ErrPower.
func Bin(op int, v api.Value, w api.Value) (api.Value, api.Errno) {
	d, e := worked(op, value.ToNum(v), value.ToNum(w))
	if e != api.OK {
		return api.Value{}, e
	}
	return value.Num(d), api.OK
}

// worked is x op y.
func worked(op int, x uint64, y uint64) (uint64, api.Errno) {
	switch op {
	case api.OpAdd:
		return soft.Add(x, y), api.OK
	case api.OpSub:
		return soft.Sub(x, y), api.OK
	case api.OpMul:
		return soft.Mul(x, y), api.OK
	case api.OpPow:
		return remain.Pow(x, y)
	}
	if y&^api.Sign == 0 {
		return 0, api.ErrDivide
	}
	if op == api.OpDiv {
		return soft.Div(x, y), api.OK
	}
	return remain.Fmod(x, y), api.OK
}
