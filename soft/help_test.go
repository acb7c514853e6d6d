package soft_test

import (
	"math"
	"math/big"
	"testing"

	"abacus/api"
	"abacus/soft"
)

const (
	minus  = api.Sign
	top    = 1<<64 - 1
	half   = 0x3fe0000000000000
	one    = 0x3ff0000000000000
	two    = 0x4000000000000000
	normal = 0x0010000000000000 // the least normal one
	maxInt = 1<<63 - 1
	minInt = -1 << 63
)

// random: a number from a fixed row (splitmix64), so that every run tests the same.
func random(seed *uint64) uint64 {
	*seed += 0x9e3779b97f4a7c15
	z := *seed
	z = (z ^ z>>30) * 0xbf58476d1ce4e5b9
	z = (z ^ z>>27) * 0x94d049bb133111eb
	return z ^ z>>31
}

// between: a number from low to high.
func between(seed *uint64, low int, high int) int {
	return low + int(random(seed)%uint64(high-low+1))
}

// power: the double 2^n, of a normal one.
func power(n int) uint64 { return uint64(n+1023) << 52 }

// isNaN: whether d is a NaN.
func isNaN(d uint64) bool { return d&^minus > api.Inf }

// nans: NaNs of either sign, with the ends of payloads.
func nans() []uint64 {
	return []uint64{api.NaN, api.NaN | minus, api.Inf + 1, (api.Inf + 1) | minus, top, top &^ minus, 0x7ff8000000000001, 0xfff7ffffffffffff}
}

// positives: the finite doubles without a sign at the edges of classes, of exponents and of fractions.
func positives() []uint64 {
	return []uint64{
		0, 1, 2, 3, 1<<51 - 1, 1 << 51, 1<<52 - 1, normal, normal + 1, 2*normal - 1, 2 * normal, 2*normal + 1, 3*normal - 1,
		power(-970), power(-538), power(-537) + 1, power(-511), power(-500) - 1,
		power(-53) - 1, power(-53), power(-53) + 1, power(-52), half - 1, half, half + 1, 0x3fd5555555555555, one - 1, one, one + 1, one + 2, 0x3ff8000000000000, two - 1, two, 0x4008000000000000,
		power(52) + 1, power(53) - 1, power(53), power(53) + 1, power(54), power(511), power(512) - 1, power(970) - 1, power(970), power(970) + 1, power(971), power(1023), api.Most - 1, api.Most,
	}
}

// doubles: those of positives and the infinity, with either sign, and two NaNs.
func doubles() []uint64 {
	list := []uint64{api.NaN, top}
	for _, d := range append(positives(), api.Inf) {
		list = append(list, d, d|minus)
	}
	return list
}

// draw: a double of any kind; extreme exponents and fractions, and exponents around 0, come often.
func draw(seed *uint64) uint64 {
	field := [...]int{between(seed, 0, 2047), between(seed, 1023-60, 1023+60), between(seed, 0, 3), between(seed, 2043, 2047), between(seed, 480, 560)}[between(seed, 0, 4)]
	x := random(seed) >> 12
	fraction := [...]uint64{0, 1, 1<<52 - 1, 1 << 51, x, x, x, x >> 30 << 30}[between(seed, 0, 7)]
	return random(seed)&minus | uint64(field)<<52 | fraction
}

// value: a finite double's value.
func value(d uint64) *big.Rat {
	return new(big.Rat).SetFloat64(math.Float64frombits(d))
}

// nearest: the double that the exact result x rounds to. Zero, of a result that is exactly zero, has the sign that neg tells.
func nearest(x *big.Rat, neg bool) uint64 {
	f, _ := new(big.Rat).Abs(x).Float64()
	if x.Sign() < 0 || x.Sign() == 0 && neg {
		return math.Float64bits(f) | minus
	}
	return math.Float64bits(f)
}

// rounding: the answer for the exact result x, and the flags that finite operands raise.
func rounding(x *big.Rat, neg bool) (uint64, int) {
	d := nearest(x, neg)
	size := new(big.Rat).Abs(x)
	if d&^minus == api.Inf {
		return d, api.FlagOver | api.FlagInexact
	}
	if value(d).Cmp(x) == 0 {
		return d, 0
	}
	if size.Sign() > 0 && size.Cmp(value(normal)) < 0 {
		return d, api.FlagUnder | api.FlagInexact
	}
	return d, api.FlagInexact
}

// raised: the flag Invalid if a NaN came of operands that are none.
func raised(d uint64, operands ...uint64) int {
	for _, x := range operands {
		if isNaN(x) {
			return 0
		}
	}
	if isNaN(d) {
		return api.FlagInvalid
	}
	return 0
}

// finite: whether all are.
func finite(list ...uint64) bool {
	for _, d := range list {
		if d&^minus >= api.Inf {
			return false
		}
	}
	return true
}

// host: x's bits; of a NaN, the NaN.
func host(x float64) uint64 {
	if math.IsNaN(x) {
		return api.NaN
	}
	return math.Float64bits(x)
}

// told: Told must answer want and flags, and the operation's own function want.
func told(t *testing.T, op int, a, b, c uint64, want uint64, flags int) {
	t.Helper()
	if d, n, e := soft.Told(op, a, b, c); d != want || n != flags || e != api.OK {
		t.Errorf("Told(%d, %016x, %016x, %016x) = %016x, %d, error %d; want %016x, %d", op, a, b, c, d, n, e, want, flags)
	}
	if d := own(op, a, b, c); d != want {
		t.Errorf("operation %d of %016x, %016x, %016x = %016x; want %016x", op, a, b, c, d, want)
	}
}

// own: what the operation's own function answers.
func own(op int, a, b, c uint64) uint64 {
	switch op {
	case 1:
		return soft.Add(a, b)
	case 2:
		return soft.Sub(a, b)
	case 3:
		return soft.Mul(a, b)
	case 4:
		return soft.Div(a, b)
	case 5:
		return soft.Sqrt(a)
	}
	return soft.Fma(a, b, c)
}
