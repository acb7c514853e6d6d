package remain

import (
	"abacus/api"
	"abacus/ieee"
	"abacus/nat"
	"abacus/quot"
)

// Fmod: what is left of a when b is taken off as often as it goes, with a's sign.
func Fmod(a uint64, b uint64) uint64 {
	return left(a, b, func(bool, int) bool { return false })
}

// Remainder: a less b times the whole number nearest to a / b (the even one of two).
func Remainder(a uint64, b uint64) uint64 {
	return left(a, b, func(odd bool, half int) bool { return half > 0 || half == 0 && odd })
}

// left is a less b times one of the whole numbers that a / b lies between, as the rule decides.
func left(a uint64, b uint64, away rule) uint64 {
	switch {
	case nan(a) || nan(b) || infinite(a) || zero(b):
		return api.NaN
	case infinite(b):
		return a
	}
	n, by, exp := aligned(a, b)
	times, rest, _ := quot.DivMod(n, by)
	twice, _ := nat.Shl(rest, 1)
	neg := a&api.Sign != 0
	if away(nat.Bit(times, 0) == 1, nat.Cmp(twice, by)) {
		rest, _ = nat.Sub(by, rest) // b is taken off once more, and so the rest lies on the other side of nothing
		neg = !neg
	}
	d, _ := ieee.Round(neg, rest, exp, false) // no rounding is met: the rest is a double
	return d
}

// aligned tells how many times 2^exp two finite doubles are, their signs left out. The lists have some thirty limbs at most, so that no call of the layers below refuses them.
func aligned(a uint64, b uint64) ([]uint64, []uint64, int) {
	p, q := ieee.Decode(a), ieee.Decode(b)
	exp := min(p.Exp, q.Exp)
	m, _ := nat.Shl(nat.FromUint(p.Mant), p.Exp-exp)
	n, _ := nat.Shl(nat.FromUint(q.Mant), q.Exp-exp)
	return m, n, exp
}
