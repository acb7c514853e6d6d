package gather_test

import (
	"math"
	"math/big"
	"slices"
	"testing"

	"abacus/api"
	"abacus/gather"
)

const (
	minus  = api.Sign
	top    = 1<<64 - 1
	half   = 0x3fe0000000000000
	one    = 0x3ff0000000000000
	two    = 0x4000000000000000
	three  = 0x4008000000000000
	four   = 0x4010000000000000
	five   = 0x4014000000000000
	normal = 0x0010000000000000 // the least normal one
)

// random: a number from a fixed row (splitmix64), so that every run tests the same.
func random(seed *uint64) uint64 {
	*seed += 0x9e3779b97f4a7c15
	z := *seed
	z = (z ^ z>>30) * 0xbf58476d1ce4e5b9
	z = (z ^ z>>27) * 0x94d049bb133111eb
	return z ^ z>>31
}

// between: a number from low to high.
func between(seed *uint64, low int, high int) int {
	return low + int(random(seed)%uint64(high-low+1))
}

// power: the double 2^n, of a normal one.
func power(n int) uint64 { return uint64(n+1023) << 52 }

// isNaN: whether d is a NaN.
func isNaN(d uint64) bool { return d&^minus > api.Inf }

// infinite: whether d is an infinity.
func infinite(d uint64) bool { return d&^minus == api.Inf }

// nans: NaNs of either sign, with the ends of payloads.
func nans() []uint64 {
	return []uint64{api.NaN, api.NaN | minus, api.Inf + 1, (api.Inf + 1) | minus, top, top &^ minus, 0x7ff8000000000001, 0xfff7ffffffffffff}
}

// positives: the finite doubles without a sign at the edges of classes, of exponents and of fractions.
func positives() []uint64 {
	return []uint64{
		0, 1, 2, 1<<51 - 1, 1<<52 - 1, normal, normal + 1, 2*normal - 1,
		power(-600), power(-538), power(-537) + 1, power(-53), power(-53) + 1, half - 1, half, 0x3fd5555555555555, one - 1, one, one + 1, two, three,
		power(53) - 1, power(53), power(511), power(512) - 1, power(970), power(1023), api.Most - 1, api.Most,
	}
}

// doubles: those of positives and the infinity, with either sign, and two NaNs.
func doubles() []uint64 {
	list := []uint64{api.NaN, top}
	for _, d := range append(positives(), api.Inf) {
		list = append(list, d, d|minus)
	}
	return list
}

// draw: a finite double; extreme exponents and fractions, and exponents around 0, come often.
func draw(seed *uint64) uint64 {
	field := [...]int{between(seed, 0, 2046), between(seed, 1023-60, 1023+60), between(seed, 0, 3), between(seed, 2043, 2046), between(seed, 480, 560)}[between(seed, 0, 4)]
	x := random(seed) >> 12
	fraction := [...]uint64{0, 1, 1<<52 - 1, 1 << 51, x, x, x, x >> 30 << 30}[between(seed, 0, 7)]
	return random(seed)&minus | uint64(field)<<52 | fraction
}

// drawMany: n finite doubles of which many cancel each other out, in a mixed order.
func drawMany(seed *uint64, n int) []uint64 {
	list := make([]uint64, n)
	for i := range list {
		list[i] = draw(seed)
		if i > 0 && between(seed, 0, 2) == 0 {
			list[i] = list[between(seed, 0, i-1)] ^ minus
		}
	}
	return mixed(seed, list)
}

// mixed: a list's items in another order.
func mixed(seed *uint64, list []uint64) []uint64 {
	out := slices.Clone(list)
	for i := len(out) - 1; i > 0; i-- {
		j := between(seed, 0, i)
		out[i], out[j] = out[j], out[i]
	}
	return out
}

// filled: n times d.
func filled(n int, d uint64) []uint64 {
	list := make([]uint64, n)
	for i := range list {
		list[i] = d
	}
	return list
}

// bitsOf: a double of the host's.
func bitsOf(f float64) uint64 { return math.Float64bits(f) }

// pair: the factors of an addend; a double's own value is its product with 1.
type pair struct{ x, y uint64 }

// single: each double as an addend.
func single(ds []uint64) []pair {
	list := make([]pair, len(ds))
	for i, d := range ds {
		list[i] = pair{d, one}
	}
	return list
}

// pairs: the products of two lists as addends.
func pairs(xs, ys []uint64) []pair {
	list := make([]pair, len(xs))
	for i := range xs {
		list[i] = pair{xs[i], ys[i]}
	}
	return list
}

// units: how many times 2^-1074 a finite double is.
func units(d uint64) *big.Int {
	field, n := uint(d>>52&0x7ff), new(big.Int).SetUint64(d&(1<<52-1))
	if field > 0 {
		n.SetBit(n, 52, 1).Lsh(n, field-1)
	}
	if d&minus != 0 {
		n.Neg(n)
	}
	return n
}

// total: how many times 2^-2148 addends are that are numbers.
func total(list []pair) *big.Int {
	sum := new(big.Int)
	for _, p := range list {
		sum.Add(sum, new(big.Int).Mul(units(p.x), units(p.y)))
	}
	return sum
}

// nearest: the double that n / d * 2^-down rounds to, n not 0 or the zero without a sign.
func nearest(n *big.Int, d *big.Int, down uint) uint64 {
	below := new(big.Int).Lsh(d, down)
	f, _ := new(big.Rat).SetFrac(new(big.Int).Abs(n), below).Float64()
	if n.Sign() < 0 {
		return bitsOf(f) | minus
	}
	return bitsOf(f)
}

// ruled: by the rules 1 to 3 and 5, what addends sum up to; false where the exact sum isn't 0.
func ruled(list []pair) (uint64, bool) {
	kinds := map[uint64]int{}
	zeros := 0
	for _, p := range list {
		sign := (p.x ^ p.y) & minus
		zero := p.x&^minus == 0 || p.y&^minus == 0
		switch {
		case isNaN(p.x) || isNaN(p.y), zero && (infinite(p.x) || infinite(p.y)):
			return api.NaN, true
		case infinite(p.x) || infinite(p.y):
			kinds[api.Inf|sign]++
		case zero && sign != 0:
			zeros++
		}
	}
	switch len(kinds) {
	case 2:
		return api.NaN, true
	case 1:
		for d := range kinds {
			return d, true
		}
	}
	if total(list).Sign() != 0 {
		return 0, false
	}
	if len(list) > 0 && zeros == len(list) {
		return minus, true
	}
	return 0, true
}

// over: what addends sum up to, divided by n.
func over(list []pair, n int) uint64 {
	if d, told := ruled(list); told {
		return d
	}
	return nearest(total(list), big.NewInt(int64(n)), 2148)
}

// sums: Sum and SumOf of ds must be want.
func sums(t *testing.T, ds []uint64, want uint64) {
	t.Helper()
	if d := gather.Sum(ds); d != want {
		t.Errorf("Sum(%016x) = %016x; want %016x", head(ds), d, want)
	}
	if d := gather.SumOf(ds...); d != want {
		t.Errorf("SumOf(%016x) = %016x; want %016x", head(ds), d, want)
	}
}

// dots: Dot of xs and ys must be want.
func dots(t *testing.T, xs, ys []uint64, want uint64) {
	t.Helper()
	if d, e := gather.Dot(xs, ys); d != want || e != api.OK {
		t.Errorf("Dot(%016x, %016x) = %016x, error %d; want %016x", head(xs), head(ys), d, e, want)
	}
}

// means: Mean of ds must be want.
func means(t *testing.T, ds []uint64, want uint64) {
	t.Helper()
	if d, e := gather.Mean(ds); d != want || e != api.OK {
		t.Errorf("Mean(%016x) = %016x, error %d; want %016x", head(ds), d, e, want)
	}
}

// varies: Variance of ds must be want.
func varies(t *testing.T, ds []uint64, want uint64) {
	t.Helper()
	if d, e := gather.Variance(ds); d != want || e != api.OK {
		t.Errorf("Variance(%016x) = %016x, error %d; want %016x", head(ds), d, e, want)
	}
}

// hypots: Hypot of ds must be want.
func hypots(t *testing.T, ds []uint64, want uint64) {
	t.Helper()
	if d := gather.Hypot(ds...); d != want {
		t.Errorf("Hypot(%016x) = %016x; want %016x", head(ds), d, want)
	}
}

// head: as much of a list as is told.
func head(ds []uint64) []uint64 { return ds[:min(len(ds), 20)] }

// holds: a must hold just these addends.
func holds(t *testing.T, what string, a *gather.Acc, list []pair) {
	t.Helper()
	if n := a.Count(); n != len(list) {
		t.Errorf("%s: the count is %d; want %d", what, n, len(list))
	}
	if d, want := a.Value(), over(list, 1); d != want {
		t.Errorf("%s: the value is %016x; want %016x", what, d, want)
	}
	d, e := a.Mean()
	if len(list) == 0 {
		if d != 0 || e != api.ErrNone {
			t.Errorf("%s: the mean of nothing is %016x, error %d", what, d, e)
		}
		return
	}
	if want := over(list, len(list)); d != want || e != api.OK {
		t.Errorf("%s: the mean is %016x, error %d; want %016x", what, d, e, want)
	}
}
