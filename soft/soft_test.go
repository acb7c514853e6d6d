package soft_test

import (
	"math"
	"math/big"
	"testing"

	"abacus/api"
	"abacus/soft"
)

// P5.1: the document's sums, in either order, and the sign of nothing.
func TestAddExamples(t *testing.T) {
	for _, c := range [][3]uint64{
		{0x3fb999999999999a, 0x3fc999999999999a, 0x3fd3333333333334},
		{one, power(-53), one}, {one + 1, power(-53), one + 2}, {one, power(-53) + 1, one + 1}, {one, power(-1074 + 52), one},
		{api.Most, power(970), api.Inf}, {api.Most, power(970) - 1, api.Most}, {api.Most, api.Most, api.Inf}, {api.Most | minus, power(970) | minus, api.Inf | minus},
		{minus, minus, minus}, {minus, 0, 0}, {0, 0, 0}, {minus, one, one}, {minus, 1 | minus, 1 | minus}, {one, one | minus, 0}, {api.Most | minus, api.Most, 0}, {1, 1 | minus, 0},
		{1, 1, 2}, {1<<52 - 1, 1, normal}, {normal, 1 | minus, 1<<52 - 1}, {1, two, two}, {power(1023), 1, power(1023)},
		{api.Inf, api.Inf | minus, api.NaN}, {api.Inf, api.Inf, api.Inf}, {api.Inf | minus, api.Inf | minus, api.Inf | minus},
		{api.Inf, api.Most | minus, api.Inf}, {api.Inf | minus, 0, api.Inf | minus}, {0xfff8000000000001, 0, api.NaN}, {top, api.Inf, api.NaN},
	} {
		if d := soft.Add(c[0], c[1]); d != c[2] {
			t.Errorf("Add(%016x, %016x) = %016x, want %016x", c[0], c[1], d, c[2])
		}
		if d := soft.Add(c[1], c[0]); d != c[2] {
			t.Errorf("Add(%016x, %016x) = %016x, want %016x", c[1], c[0], d, c[2])
		}
	}
}

// P5.1: differences, of zeros and infinities too.
func TestSubExamples(t *testing.T) {
	for _, c := range [][3]uint64{
		{one, one, 0}, {one | minus, one | minus, 0}, {minus, 0, minus}, {0, minus, 0}, {0, 0, 0}, {minus, minus, 0}, {0, one, one | minus}, {two, one, one}, {one, two, one | minus},
		{one, power(-54), one}, {one, power(-54) + 1, one - 1}, {normal, 1, 1<<52 - 1}, {api.Most | minus, power(970), api.Inf | minus},
		{api.Inf, api.Inf, api.NaN}, {api.Inf | minus, api.Inf | minus, api.NaN}, {api.Inf, api.Inf | minus, api.Inf}, {one, api.Inf, api.Inf | minus}, {one, api.Inf | minus, api.Inf}, {api.Inf | minus, one, api.Inf | minus},
		{one, top, api.NaN}, {top, one, api.NaN},
	} {
		if d := soft.Sub(c[0], c[1]); d != c[2] {
			t.Errorf("Sub(%016x, %016x) = %016x, want %016x", c[0], c[1], d, c[2])
		}
	}
}

// P5.2: products: nothing's sign, infinities, halves of the least double.
func TestMulExamples(t *testing.T) {
	for _, c := range [][3]uint64{
		{1, half, 0}, {3, half, 2}, {1 | minus, half, minus}, {1 | minus, half | minus, 0}, {1, half + 1, 1}, {1, one, 1}, {1, 1, 0}, {1, 1 | minus, minus}, {5, half, 2}, {normal, half, 1 << 51}, {normal - 1, two - 1, 2*normal - 3},
		{0, one | minus, minus}, {minus, one, minus}, {minus, minus, 0}, {0, minus, minus}, {0, 0, 0}, {0, api.Most, 0},
		{two, two, power(2)}, {api.Most, two, api.Inf}, {api.Most, two | minus, api.Inf | minus}, {api.Most, one, api.Most}, {api.Most, one + 1, api.Inf}, {api.Most, one - 1, api.Most - 1}, {api.Most | minus, api.Most | minus, api.Inf},
		{0, api.Inf, api.NaN}, {minus, api.Inf, api.NaN}, {0, api.Inf | minus, api.NaN}, {api.Inf, 1 | minus, api.Inf | minus}, {api.Inf | minus, api.Inf, api.Inf | minus}, {api.Inf | minus, api.Inf | minus, api.Inf}, {api.Inf, one, api.Inf},
		{top, one, api.NaN}, {top, 0, api.NaN}, {top, api.Inf, api.NaN},
	} {
		if d := soft.Mul(c[0], c[1]); d != c[2] {
			t.Errorf("Mul(%016x, %016x) = %016x, want %016x", c[0], c[1], d, c[2])
		}
		if d := soft.Mul(c[1], c[0]); d != c[2] {
			t.Errorf("Mul(%016x, %016x) = %016x, want %016x", c[1], c[0], d, c[2])
		}
	}
}

// P5.2: quotients: by zeros, of and by infinities, subnormal ones.
func TestDivExamples(t *testing.T) {
	for _, c := range [][3]uint64{
		{one, 0x4008000000000000, 0x3fd5555555555555}, {one | minus, 0x4008000000000000, 0xbfd5555555555555}, {normal, two, 1 << 51}, {1, two, 0}, {1 | minus, two, minus}, {3, two, 2}, {1, 0x3ff8000000000000, 1}, {1, api.Most, 0}, {1, api.Most | minus, minus}, {api.Most, 1, api.Inf}, {api.Most, half, api.Inf}, {api.Most, one - 1, api.Inf}, {one, 1, api.Inf},
		{one, 0, api.Inf}, {one, minus, api.Inf | minus}, {1 | minus, 0, api.Inf | minus}, {1 | minus, minus, api.Inf}, {0, 0, api.NaN}, {0, minus, api.NaN}, {minus, minus, api.NaN},
		{0, one, 0}, {0, one | minus, minus}, {minus, one, minus}, {minus, one | minus, 0}, {0, api.Inf, 0}, {minus, api.Inf, minus}, {one, api.Inf, 0}, {one, api.Inf | minus, minus}, {api.Most | minus, api.Inf, minus},
		{api.Inf, 0, api.Inf}, {api.Inf, minus, api.Inf | minus}, {api.Inf | minus, minus, api.Inf}, {api.Inf, api.Most, api.Inf}, {api.Inf, 1 | minus, api.Inf | minus}, {api.Inf, api.Inf, api.NaN}, {api.Inf, api.Inf | minus, api.NaN},
		{top, one, api.NaN}, {one, top, api.NaN}, {top, 0, api.NaN}, {0, top, api.NaN},
	} {
		if d := soft.Div(c[0], c[1]); d != c[2] {
			t.Errorf("Div(%016x, %016x) = %016x, want %016x", c[0], c[1], d, c[2])
		}
	}
}

// P5.3: roots: of zeros and infinities, below nothing, exact ones.
func TestSqrtExamples(t *testing.T) {
	for _, c := range [][2]uint64{
		{two, 0x3ff6a09e667f3bcd}, {0, 0}, {minus, minus}, {one, one}, {power(2), two}, {0x4022000000000000, 0x4008000000000000}, {1, power(-537)}, {4, power(-536)}, {normal, power(-511)}, {power(1022), power(511)}, {one + 1, one}, {one + 2, one + 1}, {one - 1, one - 1}, {one - 2, one - 1}, {api.Most, power(512) - 1},
		{api.Inf, api.Inf}, {api.Inf | minus, api.NaN}, {one | minus, api.NaN}, {1 | minus, api.NaN}, {api.Most | minus, api.NaN}, {top, api.NaN}, {api.Inf + 1, api.NaN},
	} {
		if d := soft.Sqrt(c[0]); d != c[1] {
			t.Errorf("Sqrt(%016x) = %016x, want %016x", c[0], d, c[1])
		}
	}
}

// P5.4: fused: rounded once, nothing's sign, infinities.
func TestFmaExamples(t *testing.T) {
	for _, c := range [][4]uint64{
		{one + 1, one + 1, (one + 2) | minus, power(-104)}, {two, two, one, 0x4014000000000000}, {one, one, one | minus, 0}, {one | minus, one, one, 0},
		{api.Most, two, api.Most | minus, api.Most}, {api.Most, api.Most, api.Most | minus, api.Inf}, {1, half, 1, 2}, {1, half, 2, 2}, {1, half, 1 | minus, minus}, {1, half, 0, 0}, {1 | minus, half, 0, minus}, {1 | minus, half, 1, 0}, {1, 1, 1, 1}, {1, 1, 1 | minus, 1 | minus}, {1, 1 | minus, minus, minus}, {1, 1, minus, 0},
		{one, one, power(-53), one}, {one, one + 1, power(-53), one + 2}, {1, 1, one + 1, one + 1}, {power(-500), power(-500), api.Most, api.Most},
		{0, one, minus, 0}, {minus, one, minus, minus}, {0, one | minus, minus, minus}, {minus, minus, minus, 0}, {minus, one, 0, 0}, {0, 0, 0, 0}, {0, one, one | minus, one | minus}, {minus, api.Most, 1, 1},
		{0, api.Inf, one, api.NaN}, {api.Inf | minus, minus, api.Inf, api.NaN}, {0, api.Inf, api.NaN, api.NaN}, {api.Inf, one, api.Inf | minus, api.NaN}, {api.Inf, one | minus, api.Inf, api.NaN}, {api.Inf, one, api.Inf, api.Inf}, {one | minus, api.Inf, api.Inf | minus, api.Inf | minus},
		{api.Inf, two, api.Most | minus, api.Inf}, {api.Inf, api.Inf | minus, one, api.Inf | minus}, {one, one, api.Inf | minus, api.Inf | minus}, {api.Most, api.Most, api.Inf | minus, api.Inf | minus}, {0, 0, api.Inf, api.Inf},
		{top, one, one, api.NaN}, {one, top, one, api.NaN}, {one, one, top, api.NaN}, {api.Inf, one, top, api.NaN}, {0, 0, api.Inf + 1, api.NaN},
	} {
		if d := soft.Fma(c[0], c[1], c[2]); d != c[3] {
			t.Errorf("Fma(%016x, %016x, %016x) = %016x, want %016x", c[0], c[1], c[2], d, c[3])
		}
	}
}

// pair: whether the four operations of two doubles answer what their exact results round to, with the flags of these.
func pair(t *testing.T, a, b uint64) {
	t.Helper()
	x, y := math.Float64frombits(a), math.Float64frombits(b)
	if !finite(a, b) {
		for op, d := range map[int]uint64{1: host(x + y), 2: host(x - y), 3: host(x * y), 4: host(x / y)} {
			told(t, op, a, b, top, d, raised(d, a, b))
		}
		return
	}
	signs := a^b >= minus
	d, flags := rounding(new(big.Rat).Add(value(a), value(b)), a == minus && b == minus)
	told(t, api.SoftAdd, a, b, top, d, flags)
	d, flags = rounding(new(big.Rat).Sub(value(a), value(b)), a == minus && b == 0)
	told(t, api.SoftSub, a, b, top, d, flags)
	d, flags = rounding(new(big.Rat).Mul(value(a), value(b)), signs)
	told(t, api.SoftMul, a, b, top, d, flags)
	switch {
	case b&^minus != 0:
		d, flags = rounding(new(big.Rat).Quo(value(a), value(b)), signs)
	case a&^minus != 0:
		d, flags = api.Inf|(a^b)&minus, api.FlagZero
	default:
		d, flags = api.NaN, api.FlagInvalid
	}
	told(t, api.SoftDiv, a, b, top, d, flags)
}

// P5.1, P5.2, P5.5: the edges with one another, and drawn pairs, against exact fractions.
func TestPairs(t *testing.T) {
	for _, a := range doubles() {
		for _, b := range doubles() {
			pair(t, a, b)
		}
	}
	seed := uint64(51)
	for range 5000 {
		pair(t, draw(&seed), draw(&seed))
	}
	for range 2000 { // near one another, so that much of a sum is lost
		a := draw(&seed)
		pair(t, a, a^minus^random(&seed)>>between(&seed, 12, 63))
	}
}

// P5.2, P5.5: products and quotients about the least doubles, the least normal one and the greatest: at middles and just beside them.
func TestAtTheEnds(t *testing.T) {
	seed := uint64(52)
	for range 4000 {
		a := random(&seed)>>12 | uint64(between(&seed, 0, 2046))<<52
		exp := [...]int{-1076, -1075, -1074, -1070, -1050, -1024, -1023, -1022, 1022, 1023, 1024}[between(&seed, 0, 10)]
		if random(&seed)&1 == 0 { // few figures make ties
			a = a >> between(&seed, 40, 52) << 50
		}
		other := exp + between(&seed, -1, 1) - (int(a>>52) - 1023) // of the exponent that takes a to exp
		if other < -1022 || other > 1023 {
			continue
		}
		b := power(other) | random(&seed)>>between(&seed, 12, 64)
		pair(t, a, b)
		if other > -1022 && other < 1023 {
			pair(t, a, power(-other)|random(&seed)>>between(&seed, 12, 64))
		}
	}
}

// P5.1, P5.5: sums that end just at, above and below a middle between two doubles.
func TestSumsAtMiddles(t *testing.T) {
	seed := uint64(53)
	for range 1000 {
		field := uint64(between(&seed, 60, 2046))
		a := random(&seed)>>12 | field<<52
		b := (field - 53) << 52 // half of what the last bit of a counts
		for _, b := range []uint64{b - 1, b, b + 1} {
			pair(t, a, b)
			pair(t, a|minus, b)
			pair(t, b, a)
		}
	}
}

// rootIs: whether d is what the root of a, above 0, rounds to: by the squares of the middles between d and its neighbours, which no root is.
func rootIs(d, a uint64) bool {
	if d == 0 || d >= api.Most {
		return false
	}
	low := new(big.Rat).Add(value(d-1), value(d))
	high := new(big.Rat).Add(value(d), value(d+1))
	four := new(big.Rat).Mul(value(a), big.NewRat(4, 1))
	return low.Mul(low, low).Cmp(four) < 0 && high.Mul(high, high).Cmp(four) > 0
}

// P5.3, P5.5: roots of the edges, of drawn doubles, of squares and of their neighbours.
func TestRoots(t *testing.T) {
	seed := uint64(54)
	list := doubles()
	for range 3000 {
		a := draw(&seed)
		square := random(&seed)>>between(&seed, 38, 63)<<between(&seed, 0, 20)&(1<<26-1) | 1
		exact := host(float64(square*square)) + uint64(between(&seed, -250, 250))<<52
		list = append(list, a, a&^minus, exact-1, exact, exact+1)
	}
	for _, a := range list {
		d := soft.Sqrt(a)
		if a == 0 || a == minus || a == api.Inf || isNaN(a) || a >= minus {
			want := a
			if isNaN(a) || a > minus {
				want = api.NaN
			}
			told(t, api.SoftSqrt, a, top, top, want, raised(want, a))
			continue
		}
		if !rootIs(d, a) || d != host(math.Sqrt(math.Float64frombits(a))) {
			t.Errorf("Sqrt(%016x) = %016x", a, d)
		}
		flags := api.FlagInexact
		if new(big.Rat).Mul(value(d), value(d)).Cmp(value(a)) == 0 {
			flags = 0
		}
		told(t, api.SoftSqrt, a, top, top, d, flags)
	}
}

// fused: whether Fma answers what the exact result rounds to, with its flags.
func fused(t *testing.T, a, b, c uint64) {
	t.Helper()
	if !finite(a, b, c) {
		d := host(math.FMA(math.Float64frombits(a), math.Float64frombits(b), math.Float64frombits(c)))
		told(t, api.SoftFma, a, b, c, d, raised(d, a, b, c))
		return
	}
	product := new(big.Rat).Mul(value(a), value(b))
	neg := product.Sign() == 0 && a^b >= minus && c == minus
	d, flags := rounding(product.Add(product, value(c)), neg)
	told(t, api.SoftFma, a, b, c, d, flags)
}

// P5.4, P5.5: fused, the edges with one another and drawn operands, against exact fractions.
func TestFused(t *testing.T) {
	few := []uint64{0, 1, 2, 1<<52 - 1, normal, power(-537), power(-53), half, one - 1, one, one + 1, 0x3ff8000000000000, power(53) - 1, power(970), api.Most, api.Inf, api.NaN, top}
	for _, a := range few {
		for _, b := range few {
			for _, c := range few {
				for s := range uint64(8) {
					fused(t, a^s<<63, b^s>>1<<63, c^s>>2<<63)
				}
			}
		}
	}
	seed := uint64(55)
	for range 5000 {
		fused(t, draw(&seed), draw(&seed), draw(&seed))
	}
}

// P5.4: what is left where the product and c nearly meet, and where c is half of the product's last bit: rounding twice would be seen.
func TestFusedMeets(t *testing.T) {
	seed := uint64(56)
	for range 3000 {
		a, b := draw(&seed), draw(&seed)
		c := soft.Mul(a, b) ^ minus
		fused(t, a, b, c)
		fused(t, a, b, c+1)
		if field := int(c >> 52 & 0x7ff); field > 60 && field < 0x7ff {
			fused(t, one, c, uint64(field-53)<<52)
			fused(t, a, b, uint64(field-53)<<52|random(&seed)&minus)
			fused(t, power(-53), uint64(field)<<52|1, c)
		}
	}
}

// P5.5: the document's examples of Told, and each flag with what parts it from its neighbours.
func TestToldExamples(t *testing.T) {
	for _, c := range []struct {
		op      int
		a, b, c uint64
		want    uint64
		flags   int
	}{
		{4, one, 0, 0, api.Inf, 2}, {4, api.Inf, 0, 0, api.Inf, 0}, {4, 0, 0, 0, api.NaN, 1}, {3, api.Most, two, 0, api.Inf, 20}, {3, 1, half, 0, 0, 24}, {4, normal, two, 0, 1 << 51, 0}, {1, one, power(-53), api.NaN, one, 16},
		{4, 1 | minus, 0, 0, api.Inf | minus, 2}, {4, top, 0, 0, api.NaN, 0}, {4, api.Inf, api.Inf, 0, api.NaN, 1}, {4, one, api.Inf, 0, 0, 0}, {4, api.Most, half, 0, api.Inf, 20},
		{4, normal, one + 1, 0, normal - 1, 24}, {3, normal, one - 1, 0, normal, 24}, {3, normal + 1, one - 1, 0, normal, 16}, {3, normal + 1, half, 0, 1 << 51, 24}, {3, 1, 1 | minus, 0, minus, 24}, {3, 0, 1, 0, 0, 0}, {3, api.Inf, 1, 0, api.Inf, 0}, {3, 0, api.Inf, 0, api.NaN, 1}, {3, top, 0, 0, api.NaN, 0},
		{1, api.Inf, api.Inf | minus, 0, api.NaN, 1}, {2, api.Inf, api.Inf, 0, api.NaN, 1}, {1, api.Inf, one, 0, api.Inf, 0}, {2, one, one, top, 0, 0}, {1, 1, 1, 0, 2, 0}, {1, api.Most, power(970), 0, api.Inf, 20}, {1, api.Most, power(970) - 1, 0, api.Most, 16}, {1, api.NaN, api.Inf, 0, api.NaN, 0},
		{5, two, top, top, 0x3ff6a09e667f3bcd, 16}, {5, power(2), top, top, two, 0}, {5, minus, 0, 0, minus, 0}, {5, one | minus, top, top, api.NaN, 1}, {5, api.Inf | minus, 0, 0, api.NaN, 1}, {5, top, 0, 0, api.NaN, 0}, {5, api.Inf, 0, 0, api.Inf, 0}, {5, 1, top, top, power(-537), 0}, {5, 2, top, top, 0x1e66a09e667f3bcd, 16},
		{6, 0, api.Inf, one, api.NaN, 1}, {6, 0, api.Inf, top, api.NaN, 0}, {6, api.Inf, one, api.Inf | minus, api.NaN, 1}, {6, api.Most, two, api.Inf | minus, api.Inf | minus, 0}, {6, one + 1, one + 1, (one + 2) | minus, power(-104), 0}, {6, 1, half, 1, 2, 24}, {6, 1, half, 0, 0, 24}, {6, api.Most, two, 0, api.Inf, 20}, {6, api.Most, two, api.Most | minus, api.Most, 0}, {6, 1, 1, normal | minus, normal | minus, 24}, {6, 1, 1, normal, normal, 16}, {6, 1, 1, 1 << 51, 1 << 51, 24},
	} {
		told(t, c.op, c.a, c.b, c.c, c.want, c.flags)
	}
}

// P5.5: any other number is no operation, whatever the operands are.
func TestToldRefuses(t *testing.T) {
	for _, op := range []int{0, 7, 8, -1, -5, 100, maxInt, minInt} {
		for _, a := range []uint64{0, one, top} {
			if d, n, e := soft.Told(op, a, one, one); d != 0 || n != 0 || e != api.ErrTold {
				t.Errorf("Told(%d, %016x) = %016x, %d, error %d; want 0, 0, error %d", op, a, d, n, e, api.ErrTold)
			}
		}
	}
}

// P5.1 to P5.5: each operation with a NaN among the operands that it uses answers the NaN and raises nothing; what it doesn't use is not looked at.
func TestNaNs(t *testing.T) {
	for _, n := range nans() {
		for _, x := range []uint64{0, minus, 1, one | minus, api.Most, api.Inf, api.Inf | minus, api.NaN} {
			for op := api.SoftAdd; op <= api.SoftDiv; op++ {
				told(t, op, n, x, x, api.NaN, 0)
				told(t, op, x, n, x, api.NaN, 0)
			}
			told(t, api.SoftSqrt, n, x, x, api.NaN, 0)
			for _, y := range []uint64{0, one, api.Inf, n} {
				told(t, api.SoftFma, n, x, y, api.NaN, 0)
				told(t, api.SoftFma, x, n, y, api.NaN, 0)
				told(t, api.SoftFma, x, y, n, api.NaN, 0)
			}
		}
		told(t, api.SoftAdd, one, one, n, two, 0)
		told(t, api.SoftSub, two, one, n, one, 0)
		told(t, api.SoftMul, two, one, n, two, 0)
		told(t, api.SoftDiv, two, one, n, two, 0)
		told(t, api.SoftSqrt, one, n, n, one, 0)
	}
}
