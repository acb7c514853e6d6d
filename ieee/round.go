package ieee

import (
	"abacus/api"
	"abacus/nat"
	"abacus/quot"
)

const (
	maxBits  = 64 * api.MaxLimbs
	farthest = 8 * maxBits // an exponent that no natural and no quotient of two can make up for, either way
)

// Round: the double nearest to n * 2^exp (to something just above it, if more), below nothing if neg.
func Round(neg bool, n []uint64, exp int, more bool) (uint64, api.Errno) {
	if nat.BitLen(n) > maxBits {
		return 0, api.ErrBig
	}
	return signed(neg, nearest(n, within(exp), more)), api.OK
}

// RoundRatio: the double nearest to n / d * 2^exp, below nothing if neg; ErrZero.
func RoundRatio(neg bool, n []uint64, d []uint64, exp int) (uint64, api.Errno) {
	if nat.BitLen(n) > maxBits || nat.BitLen(d) > maxBits {
		return 0, api.ErrBig
	}
	if nat.BitLen(d) == 0 {
		return 0, api.ErrZero
	}
	if nat.BitLen(n) == 0 {
		return signed(neg, 0), api.OK
	}
	q, shift, rest := ratio(n, d)
	return signed(neg, nearest(q, within(exp)-shift, rest)), api.OK
}

// within holds an exponent so near to 0 that sums with it don't wrap round, and so far from it that the answer stays the same.
func within(exp int) int { return min(max(exp, -farthest), farthest) }

// nearest is the double without a sign nearest to n * 2^exp; more decides between two equally near ones.
func nearest(n []uint64, exp int, more bool) uint64 {
	size := nat.BitLen(n)
	if size == 0 {
		return 0
	}
	if size+exp > 1024 {
		return api.Inf
	}
	unit := max(size+exp-fractionBits-1, lowest) // what the mantissa's last bit counts
	mant := scaled(n, exp-unit)
	if roundsUp(n, unit-exp, more || mant&1 == 1) {
		mant++
	}
	// A normal mantissa's hidden bit adds 1 to the field, and so does a mantissa that has grown to the next power of two: the infinity's field too.
	return uint64(unit-lowest)<<fractionBits + mant
}

// scaled is the whole part of n * 2^shift, which the caller knows to be below 2^64.
func scaled(n []uint64, shift int) uint64 {
	if shift > 0 {
		u, _ := nat.ToUint(n)
		return u << shift
	}
	n, _, _ = nat.Shr(n, -shift)
	u, _ := nat.ToUint(n)
	return u
}

// roundsUp tells whether the lowest drop bits of n are more than half of what the next one counts, or just half if half is to go up.
func roundsUp(n []uint64, drop int, half bool) bool {
	if nat.Bit(n, drop-1) == 0 {
		return false
	}
	return half || nat.Trail(n) < drop-1
}

// ratio is n / d as q * 2^-shift, cut, and whether anything was cut off. q has 63 bits at least, more than a middle between two doubles, so that none lies between q and the next whole number.
func ratio(n []uint64, d []uint64) ([]uint64, int, bool) {
	long := nat.BitLen(d) + 64
	if long > maxBits {
		return longest(n, d)
	}
	shift := long - nat.BitLen(n)
	lost := false
	if shift < 0 {
		n, lost, _ = nat.Shr(n, -shift)
	} else {
		n, _ = nat.Shl(n, shift)
	}
	q, rest, _ := quot.DivMod(n, d)
	return q, shift, lost || len(rest) > 0
}

// longest is ratio where d is so long that there is no room for n above it: n goes as high as it can, and the lowest limb of d is left out at first.
//
// With d = high * 2^64 + low and n = q * high + rest, n * 2^64 = q * d + (rest * 2^64 - q * low). The part in brackets is below d; since q * low has some limbs and d has MaxLimbs, it is above -d. So if it is below 0, q is too great by just 1.
func longest(n []uint64, d []uint64) ([]uint64, int, bool) {
	shift := maxBits - nat.BitLen(n)
	n, _ = nat.Shl(n, shift)
	high, _, _ := nat.Shr(d, 64)
	low, _ := nat.Low(d, 64)
	q, rest, _ := quot.DivMod(n, high)
	rest, _ = nat.Shl(rest, 64)
	owed, _ := nat.Mul(q, low)
	over := nat.Cmp(rest, owed)
	if over < 0 {
		q, _ = nat.Sub(q, nat.FromUint(1))
	}
	return q, shift + 64, over != 0
}
