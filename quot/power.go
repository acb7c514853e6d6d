package quot

import (
	"math/bits"

	"abacus/api"
	"abacus/nat"
)

// Pow: a^n; ErrArg if n is below 0.
func Pow(a []uint64, n int) ([]uint64, api.Errno) {
	size := nat.BitLen(a)
	switch {
	case limbs(a) > api.MaxLimbs:
		return nil, api.ErrBig
	case n < 0:
		return nil, api.ErrArg
	case n == 0:
		return nat.FromUint(1), api.OK
	case size < 2:
		return nat.Trim(a), api.OK
	// a is at least 2^(size-1), so here a^n is at least 2^(limbBits*MaxLimbs); the division keeps (size-1)*n from wrapping round.
	case n > (limbBits*api.MaxLimbs-1)/(size-1):
		return nil, api.ErrBig
	}
	return power(a, n)
}

// Pow5: 5^n; ErrArg if n is below 0.
func Pow5(n int) ([]uint64, api.Errno) {
	return Pow([]uint64{5}, n)
}

// Pow10: 10^n; ErrArg if n is below 0.
func Pow10(n int) ([]uint64, api.Errno) {
	return Pow([]uint64{10}, n)
}

// Log: the greatest n with base^n at most a; ErrZero of nothing, ErrArg if base is below 2.
func Log(a []uint64, base uint64) (int, api.Errno) {
	switch {
	case limbs(a) > api.MaxLimbs:
		return 0, api.ErrBig
	case limbs(a) == 0:
		return 0, api.ErrZero
	case base < 2:
		return 0, api.ErrArg
	}
	powers := squares(nat.FromUint(base), a)
	n, reached := 0, nat.FromUint(1)
	for i := len(powers) - 1; i >= 0; i-- {
		next, e := nat.Mul(reached, powers[i])
		// What is too big to be made is above a too.
		if e == api.OK && nat.Cmp(next, a) <= 0 {
			n, reached = n+1<<i, next
		}
	}
	return n, api.OK
}

// Root: the greatest r with r*r at most a, and whether r*r is a; ErrBig above MaxRoot limbs.
func Root(a []uint64) ([]uint64, bool, api.Errno) {
	if limbs(a) > api.MaxRoot {
		return nil, false, api.ErrBig
	}
	if limbs(a) == 0 {
		return nil, true, api.OK
	}
	r := newton(a)
	square, e := nat.Mul(r, r)
	return r, nat.Cmp(square, a) == 0, e
}

// power: a^n for n from 1 on, along n's binary digits from the highest down: then all that is reached on the way is a lower power of a, and is too big only where the answer is.
func power(a []uint64, n int) ([]uint64, api.Errno) {
	out := nat.Trim(a)
	for i := bits.Len(uint(n)) - 2; i >= 0; i-- {
		square, e := nat.Mul(out, out)
		if e == api.OK && n>>i&1 == 1 {
			square, e = nat.Mul(square, a)
		}
		if e != api.OK {
			return nil, e
		}
		out = square
	}
	return out, api.OK
}

// squares: p, p^2, p^4 and so on, as many as are at most a.
func squares(p []uint64, a []uint64) [][]uint64 {
	var list [][]uint64
	for e := api.OK; e == api.OK && nat.Cmp(p, a) <= 0; {
		list = append(list, p)
		p, e = nat.Mul(p, p)
	}
	return list
}

// newton: the whole root of a, which has from 1 to MaxRoot limbs, by Newton's steps. They begin above the root and fall till they are there. All that is made on the way is far below the limit, and so none of the calls refuses.
func newton(a []uint64) []uint64 {
	r, _ := nat.Shl([]uint64{1}, (nat.BitLen(a)+1)/2)
	for {
		next := step(a, r)
		if nat.Cmp(next, r) >= 0 {
			return r
		}
		r = next
	}
}

// step: the whole part of the mean of r and of a's whole quotient by r.
func step(a []uint64, r []uint64) []uint64 {
	q, _, _ := DivMod(a, r)
	sum, _ := nat.Add(r, q)
	mean, _, _ := nat.Shr(sum, 1)
	return mean
}
