package ieee

import (
	"math/bits"

	"abacus/api"
	"abacus/nat"
)

// Integral: whether d is finite and a whole number.
func Integral(d uint64) bool {
	p := Decode(d)
	return finite(d) && p.Exp+bits.TrailingZeros64(p.Mant) >= 0
}

// FromInt: the double nearest to i.
func FromInt(i int64) uint64 {
	if i < 0 {
		return Neg(FromUint(-uint64(i)))
	}
	return FromUint(uint64(i))
}

// FromUint: the double nearest to u.
func FromUint(u uint64) uint64 {
	return nearest(nat.FromUint(u), 0, false)
}

// ToInt: d cut to a whole number; ErrFinite, ErrRange.
func ToInt(d uint64) (int64, api.Errno) {
	neg, n, e := Whole(d)
	if e != api.OK {
		return 0, e
	}
	most := uint64(1<<63 - 1)
	if neg {
		most = 1 << 63
	}
	u, ok := nat.ToUint(n)
	if !ok || u > most {
		return 0, api.ErrRange
	}
	if neg {
		return -int64(u), api.OK // -2^63 stays itself, turned or not
	}
	return int64(u), api.OK
}

// Whole: d cut to a whole number, however great: its sign and its natural; ErrFinite.
func Whole(d uint64) (bool, []uint64, api.Errno) {
	if !finite(d) {
		return false, nil, api.ErrFinite
	}
	p := Decode(d)
	if p.Exp < 0 {
		return p.Neg, nat.FromUint(p.Mant >> -p.Exp), api.OK
	}
	n, e := nat.Shl(nat.FromUint(p.Mant), p.Exp)
	return p.Neg, n, e
}
