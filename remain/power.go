package remain

import (
	"math/bits"

	"abacus/api"
	"abacus/ieee"
	"abacus/nat"
	"abacus/quot"
)

const farthest = 2200 // a power of two that takes every finite double beyond the greatest, and the other way to nothing

// Scale: d * 2^n, rounded once.
func Scale(d uint64, n int) uint64 {
	switch {
	case nan(d):
		return api.NaN
	case infinite(d):
		return d
	}
	p := ieee.Decode(d)
	n = min(max(n, -farthest), farthest) // so that the sum below doesn't wrap round
	scaled, _ := ieee.Round(p.Neg, nat.FromUint(p.Mant), p.Exp+n, false)
	return scaled
}

// Power: x^n, rounded once; ErrPower beyond MaxPower either way.
func Power(x uint64, n int) (uint64, api.Errno) {
	if n < -api.MaxPower || n > api.MaxPower {
		return 0, api.ErrPower
	}
	if n == 0 {
		return api.One, api.OK
	}
	if nan(x) {
		return api.NaN, api.OK
	}
	var sign uint64
	if n%2 != 0 {
		sign = x & api.Sign
	}
	return size(x, n) | sign, api.OK
}

// Pow: x^y for a whole y; ErrPower else.
func Pow(x uint64, y uint64) (uint64, api.Errno) {
	n, e := ieee.ToInt(y)
	if e != api.OK || !ieee.Integral(y) {
		return 0, api.ErrPower
	}
	return Power(x, int(n))
}

// size is x^n without its sign, for an n that isn't 0 and an x that is no NaN.
func size(x uint64, n int) uint64 {
	switch {
	case zero(x) && n > 0 || infinite(x) && n < 0:
		return 0
	case zero(x) || infinite(x):
		return api.Inf
	}
	p := ieee.Decode(x)
	low := bits.TrailingZeros64(p.Mant) // left out, since the power is the shorter for it
	mant, _ := quot.Pow(nat.FromUint(p.Mant>>low), max(n, -n))
	exp := (p.Exp + low) * n
	if n > 0 {
		d, _ := ieee.Round(false, mant, exp, false)
		return d
	}
	d, _ := ieee.RoundRatio(false, nat.FromUint(1), mant, exp)
	return d
}
