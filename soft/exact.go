package soft

import (
	"abacus/api"
	"abacus/ieee"
	"abacus/nat"
	"abacus/quot"
)

const (
	leastNormal = -1022 // of the least normal double, as a power of two
	room        = 128   // bits that a dividend or radicand gets below its own: what is made of it has 64 at least, more than a middle between two doubles, so that none lies between it and the next whole number
)

// exact is a result that is not rounded yet: n * 2^exp, below nothing if neg. With more it lies above that, and below (n + 1) * 2^exp.
//
// The lists are some sixty limbs at most, so that no call of the layers below refuses them.
type exact struct {
	neg  bool
	n    []uint64
	exp  int
	more bool
}

// number is the value of a finite double.
func number(d uint64) exact {
	p := ieee.Decode(d)
	return exact{neg: p.Neg, n: nat.FromUint(p.Mant), exp: p.Exp}
}

func (x exact) plus(y exact) exact {
	exp := min(x.exp, y.exp)
	a, _ := nat.Shl(x.n, x.exp-exp)
	b, _ := nat.Shl(y.n, y.exp-exp)
	if x.neg == y.neg {
		sum, _ := nat.Add(a, b)
		return exact{neg: x.neg, n: sum, exp: exp}
	}
	switch nat.Cmp(a, b) {
	case 1:
		rest, _ := nat.Sub(a, b)
		return exact{neg: x.neg, n: rest, exp: exp}
	case -1:
		rest, _ := nat.Sub(b, a)
		return exact{neg: y.neg, n: rest, exp: exp}
	}
	return exact{}
}

func (x exact) times(y exact) exact {
	n, _ := nat.Mul(x.n, y.n)
	return exact{neg: x.neg != y.neg, n: n, exp: x.exp + y.exp}
}

// over is the quotient by y, which isn't 0.
func (x exact) over(y exact) exact {
	n, _ := nat.Shl(x.n, room)
	q, rest, _ := quot.DivMod(n, y.n)
	return exact{neg: x.neg != y.neg, n: q, exp: x.exp - room - y.exp, more: len(rest) > 0}
}

// root is the square root of x, which is above 0.
func (x exact) root() exact {
	down := room + x.exp&1 // the exponent must be even to be halved
	n, _ := nat.Shl(x.n, down)
	r, whole, _ := quot.Root(n)
	return exact{n: r, exp: (x.exp - down) / 2, more: !whole}
}

// rounded is the double nearest to x, and the flags that the rounding raises.
func (x exact) rounded() (uint64, int) {
	d, _ := ieee.Round(x.neg, x.n, x.exp, x.more)
	if x.is(d) {
		return d, 0
	}
	flags := api.FlagInexact
	if infinite(d) {
		flags |= api.FlagOver
	}
	if nat.BitLen(x.n)+x.exp <= leastNormal {
		flags |= api.FlagUnder
	}
	return d, flags
}

// is tells whether d, which x was rounded to, is x. A finite d lies at most half of what its last bit counts from x, so it is x where x is a multiple of that. (If d is zero and x isn't, x is no multiple of 1, which a zero's parts count.)
func (x exact) is(d uint64) bool {
	if len(x.n) == 0 {
		return true
	}
	return !x.more && !infinite(d) && x.exp+nat.Trail(x.n) >= ieee.Decode(d).Exp
}
