package remain_test

import (
	"math/big"

	"abacus/api"
)

const (
	minus  = api.Sign
	top    = 1<<64 - 1
	half   = 0x3fe0000000000000
	one    = 0x3ff0000000000000
	two    = 0x4000000000000000
	three  = 0x4008000000000000
	four   = 0x4010000000000000
	ten    = 0x4024000000000000
	normal = 0x0010000000000000 // the least normal one
	maxInt = 1<<63 - 1
	minInt = -1 << 63
)

// random: a number from a fixed row (splitmix64), so that every run tests the same.
func random(seed *uint64) uint64 {
	*seed += 0x9e3779b97f4a7c15
	z := *seed
	z = (z ^ z>>30) * 0xbf58476d1ce4e5b9
	z = (z ^ z>>27) * 0x94d049bb133111eb
	return z ^ z>>31
}

// between: a number from low to high.
func between(seed *uint64, low int, high int) int {
	return low + int(random(seed)%uint64(high-low+1))
}

// power: the double 2^n, of a normal one.
func power(n int) uint64 { return uint64(n+1023) << 52 }

// isNaN: whether d is a NaN.
func isNaN(d uint64) bool { return d&^minus > api.Inf }

// finite: whether d is no infinity and no NaN.
func finite(d uint64) bool { return d&^minus < api.Inf }

// nans: NaNs of either sign, with the ends of payloads.
func nans() []uint64 {
	return []uint64{api.NaN, api.NaN | minus, api.Inf + 1, (api.Inf + 1) | minus, top, top &^ minus, 0x7ff8000000000001, 0xfff7ffffffffffff}
}

// positives: the finite doubles without a sign at the edges of classes, of exponents, of fractions and of whole numbers.
func positives() []uint64 {
	return []uint64{
		0, 1, 2, 3, 5, 1<<51 - 1, 1 << 51, 1<<52 - 1, normal, normal + 1, 2*normal - 1, 2 * normal, 2*normal + 1,
		power(-970), power(-537) + 1, power(-64), power(-63), power(-62), power(-54), power(-53), power(-52), half / 2, half - 1, half, half + 1, 0x3fe8000000000000, one - 1, one, one + 1,
		0x3ff8000000000000 - 1, 0x3ff8000000000000, 0x3ff8000000000000 + 1, two - 1, two, 0x4004000000000000 - 1, 0x4004000000000000, 0x4004000000000000 + 1, three, 0x400c000000000000, four, 0x4016000000000000, ten,
		power(50) + 1, power(51) - 1, power(51) + 1, power(51) + 3, power(52) - 1, power(52), power(52) + 1, power(53) - 1, power(53), power(53) + 1, power(63), power(64) - 1,
		power(511), power(512) - 1, power(970), power(1023), api.Most - 1, api.Most,
	}
}

// doubles: those of positives and the infinity, with either sign, and two NaNs.
func doubles() []uint64 {
	list := []uint64{api.NaN, top}
	for _, d := range append(positives(), api.Inf) {
		list = append(list, d, d|minus)
	}
	return list
}

// draw: a double of any kind; extreme exponents and fractions, and exponents around 0, come often.
func draw(seed *uint64) uint64 {
	field := [...]int{between(seed, 0, 2047), between(seed, 1023-60, 1023+60), between(seed, 0, 3), between(seed, 2043, 2047), between(seed, 1023-3, 1023+55)}[between(seed, 0, 4)]
	x := random(seed) >> 12
	fraction := [...]uint64{0, 1, 1<<52 - 1, 1 << 51, x, x, x >> 30 << 30, x >> 45 << 45}[between(seed, 0, 7)]
	return random(seed)&minus | uint64(field)<<52 | fraction
}

// units: how many times 2^-1074 a double is, its sign left out; the infinity counts as 2^1024.
func units(d uint64) *big.Int {
	field, f := uint(d>>52&0x7ff), d&(1<<52-1)
	if field == 0 {
		return new(big.Int).SetUint64(f)
	}
	n := new(big.Int).SetUint64(1<<52 + f)
	return n.Lsh(n, field-1)
}

// signed: how many times 2^-1074 a double is.
func signed(d uint64) *big.Int {
	n := units(d)
	if d&minus != 0 {
		n.Neg(n)
	}
	return n
}

// is: whether d is n times 2^-1074, its sign the one of n, or that of like if n is 0.
func is(d uint64, n *big.Int, like uint64) bool {
	if !finite(d) || signed(d).Cmp(n) != 0 {
		return false
	}
	return n.Sign() != 0 || d&minus == like&minus
}

// versus: -1, 0 or 1 as n / d * 2^exp is below, the same as or above m * 2^-1075.
func versus(n *big.Int, d *big.Int, exp int, m *big.Int) int {
	left, right := new(big.Int).Set(n), new(big.Int).Mul(m, d)
	if exp+1075 >= 0 {
		left.Lsh(left, uint(exp+1075))
	} else {
		right.Lsh(right, uint(-exp-1075))
	}
	return left.Cmp(right)
}

// isNearest: whether x, without a sign, is what n / d * 2^exp, which isn't 0, rounds to: by the middles between x and its neighbours.
func isNearest(x uint64, n *big.Int, d *big.Int, exp int) bool {
	if x > api.Inf {
		return false
	}
	odd := x&1 == 1
	if x > 0 {
		if c := versus(n, d, exp, new(big.Int).Add(units(x-1), units(x))); c < 0 || c == 0 && odd {
			return false
		}
	}
	if x < api.Inf {
		if c := versus(n, d, exp, new(big.Int).Add(units(x), units(x+1))); c > 0 || c == 0 && odd {
			return false
		}
	}
	return true
}

// parts: the mantissa and the exponent of a finite double.
func parts(d uint64) (*big.Int, int) {
	field, f := int(d>>52&0x7ff), d&(1<<52-1)
	if field == 0 {
		return new(big.Int).SetUint64(f), -1074
	}
	return new(big.Int).SetUint64(1<<52 + f), field - 1075
}
