package quot_test

import (
	"math/big"
	"testing"

	"abacus/api"
	"abacus/quot"
)

// divided: DivMod of a by b must be what math/big answers.
func divided(t *testing.T, a, b []uint64) {
	t.Helper()
	q, r, e := quot.DivMod(a, b)
	wantQ, wantR := new(big.Int).QuoRem(number(a), number(b), new(big.Int))
	same(t, "DivMod's quotient", q, e, wantQ)
	same(t, "DivMod's rest", r, e, wantR)
}

// P2.1.
func TestDivModExamples(t *testing.T) {
	for _, c := range [][4]string{
		{"17", "5", "3", "2"}, {"4", "5", "0", "4"}, {"0", "5", "0", "0"}, {"5", "5", "1", "0"},
		{"18446744073709551616", "3", "6148914691236517205", "1"},
		{"340282366920938463463374607431768211455", "18446744073709551617", "18446744073709551615", "0"},
		{"340282366920938463463374607431768211456", "18446744073709551615", "18446744073709551617", "1"},
	} {
		q, r, e := quot.DivMod(limbs(whole(t, c[0])), limbs(whole(t, c[1])))
		same(t, c[0]+" by "+c[1], q, e, whole(t, c[2]))
		same(t, c[0]+" by "+c[1]+", rest", r, e, whole(t, c[3]))
	}
}

// P2.1.
func TestDivMod(t *testing.T) {
	for _, b := range samples() {
		for _, a := range append(samples(), zeros()...) {
			divided(t, a, b)
		}
		divided(t, under(b, 2), b)
		divided(t, b, under(b, 3))
	}
}

// P2.1: dividends that are just a multiple of the divisor, one less and the last one ahead of the next multiple.
func TestDivModAroundMultiples(t *testing.T) {
	one := big.NewInt(1)
	for _, b := range samples() {
		for _, q := range samples() {
			multiple := new(big.Int).Mul(number(q), number(b))
			divided(t, limbs(multiple), b)
			divided(t, limbs(new(big.Int).Sub(multiple, one)), b)
			divided(t, limbs(new(big.Int).Sub(new(big.Int).Add(multiple, number(b)), one)), b)
		}
	}
}

// P2.1: a digit that is guessed from the highest limbs is too great, by one that only the subtraction shows, by one or two that the second limb shows, or would have more than 64 bits.
func TestDivModGuesses(t *testing.T) {
	for _, c := range [][2][]uint64{
		{{3, 0, half}, {1, 0, 1 << 61}},
		{{0, 0, half, half - 1}, {1, 0, half}},
		{{0, top - 1, half}, {top, half}},
		{{0, 0, top - 1, half}, {top, 0, half}},
		{{0, 0, 0, half, half - 1}, {1, 0, 0, half}},
		{{top, top, half}, {top, half}},
		{{0, 0, half}, {top, half}},
		{{top, top, top, half}, {top, top, half}},
		{{top, top - 1, top - 1}, {top, top}},
		{{0, top, top - 1}, {top, top}},
	} {
		divided(t, c[0], c[1])
	}
	edges := []uint64{0, 1, half - 1, half, half + 1, top - 1, top}
	pick := func(n int) []uint64 {
		var a []uint64
		for range 4 {
			a = append(a, edges[n%len(edges)])
			n /= len(edges)
		}
		return a
	}
	for n := range 7 * 7 * 7 * 7 {
		a := pick(n)
		for _, b := range [][]uint64{{1, half}, {top, half}, {0, 0, half}, {1, 0, half}, {top, 0, half}, {top, top, half}, {top, top}, {top, top, 1}, {1, 0, 1}, {top, 1}} {
			divided(t, a, b)
			divided(t, append([]uint64{5}, a...), b)
		}
	}
}

// P2.1: all limbs of random rows, divisors of every length.
func TestDivModDrawn(t *testing.T) {
	seed := uint64(7)
	for n := range 60 {
		for m := range n + 3 {
			a, b := random(&seed, n), random(&seed, m+1)
			divided(t, a, b)
			b[m] >>= uint(n) // highest limbs with zeros on top
			b[m] |= 1
			divided(t, a, b)
		}
	}
}

// P2.1: operands of MaxLimbs limbs.
func TestDivModLimit(t *testing.T) {
	seed := uint64(3)
	most := fill(api.MaxLimbs, top)
	long := random(&seed, api.MaxLimbs)
	for _, b := range [][]uint64{{1}, {3, 0}, {1, 1}, {top, half}, random(&seed, 100), random(&seed, 2048), random(&seed, 4095), two(maxBits - 1), most, long} {
		for _, a := range [][]uint64{most, long, under(most, 900), two(maxBits - 1), {7}} {
			divided(t, a, b)
			divided(t, a, under(b, 5000))
		}
	}
}

// The errors and their order: too big, then a divisor 0.
func TestDivModErrors(t *testing.T) {
	big := fill(api.MaxLimbs+1, 1)
	seed := uint64(5)
	for _, c := range []struct {
		a, b []uint64
		want api.Errno
	}{
		{big, []uint64{1}, api.ErrBig}, {[]uint64{1}, big, api.ErrBig}, {nil, big, api.ErrBig}, {big, big, api.ErrBig},
		{two(maxBits), []uint64{2}, api.ErrBig}, {under(big, 50), random(&seed, 50), api.ErrBig},
	} {
		q, r, e := quot.DivMod(c.a, c.b)
		refused(t, "DivMod", q, e, c.want)
		refused(t, "DivMod's rest", r, e, c.want)
		q, e = quot.Near(c.a, c.b)
		refused(t, "Near", q, e, c.want)
	}
	for _, zero := range zeros() {
		for _, a := range [][]uint64{nil, {0}, {1}, {5, 6, 7}, fill(api.MaxLimbs, top)} {
			q, r, e := quot.DivMod(a, zero)
			refused(t, "DivMod by 0", q, e, api.ErrZero)
			refused(t, "DivMod's rest by 0", r, e, api.ErrZero)
			q, e = quot.Near(a, zero)
			refused(t, "Near by 0", q, e, api.ErrZero)
		}
		q, r, e := quot.DivMod(big, zero)
		refused(t, "big by 0", q, e, api.ErrBig)
		refused(t, "big by 0, rest", r, e, api.ErrBig)
		q, e = quot.Near(big, zero)
		refused(t, "Near of big by 0", q, e, api.ErrBig)
	}
}

// nearest: the whole number nearest to a / b, of two the even one: the whole part of (2a + b) / 2b, less one where that is just between and odd.
func nearest(a, b *big.Int) *big.Int {
	twice := new(big.Int).Lsh(b, 1)
	sum := new(big.Int).Add(new(big.Int).Lsh(a, 1), b)
	q, r := new(big.Int).QuoRem(sum, twice, new(big.Int))
	if r.Sign() == 0 && q.Bit(0) == 1 {
		q.Sub(q, big.NewInt(1))
	}
	return q
}

// P2.2.
func TestNearExamples(t *testing.T) {
	for _, c := range [][3]string{
		{"7", "2", "4"}, {"5", "2", "2"}, {"9", "4", "2"}, {"11", "4", "3"}, {"12", "4", "3"}, {"1", "2", "0"}, {"3", "2", "2"}, {"0", "7", "0"},
		{"2", "3", "1"}, {"1", "3", "0"}, {"10", "4", "2"}, {"14", "4", "4"}, {"1", "1", "1"},
		{"18446744073709551616", "36893488147419103232", "0"}, {"18446744073709551617", "36893488147419103232", "1"},
		{"18446744073709551615", "36893488147419103232", "0"},
	} {
		n, e := quot.Near(limbs(whole(t, c[0])), limbs(whole(t, c[1])))
		same(t, "Near of "+c[0]+" by "+c[1], n, e, whole(t, c[2]))
	}
}

// P2.2.
func TestNear(t *testing.T) {
	for _, b := range samples() {
		for _, a := range append(samples(), zeros()...) {
			n, e := quot.Near(a, b)
			same(t, "Near", n, e, nearest(number(a), number(b)))
		}
	}
}

// P2.2: just a half, and one to either side of it, above even and odd whole numbers.
func TestNearHalves(t *testing.T) {
	for _, c := range samples() {
		b := new(big.Int).Lsh(number(c), 1)
		for _, q := range []*big.Int{new(big.Int), big.NewInt(1), big.NewInt(2), big.NewInt(7), number([]uint64{top}), number([]uint64{top, top}), number([]uint64{0, 1})} {
			middle := new(big.Int).Add(new(big.Int).Mul(q, b), number(c))
			up := new(big.Int).Add(q, big.NewInt(1))
			even := q
			if q.Bit(0) == 1 {
				even = up
			}
			n, e := quot.Near(limbs(middle), limbs(b))
			same(t, "Near of a half", n, e, even)
			n, e = quot.Near(limbs(new(big.Int).Add(middle, big.NewInt(1))), limbs(b))
			if b.Cmp(big.NewInt(2)) > 0 {
				same(t, "Near above a half", n, e, up)
				n, e = quot.Near(limbs(new(big.Int).Sub(middle, big.NewInt(1))), limbs(b))
				same(t, "Near below a half", n, e, q)
			}
		}
	}
}

// P2.2: at the limit twice the rest is too big for a natural, the answer isn't.
func TestNearLimit(t *testing.T) {
	most := fill(api.MaxLimbs, top)
	less := fill(api.MaxLimbs, top)
	less[0]--
	one := big.NewInt(1)
	n, e := quot.Near(less, most)
	same(t, "Near of the greatest but one by the greatest", n, e, one)
	n, e = quot.Near(most, most)
	same(t, "Near of the greatest by itself", n, e, one)
	n, e = quot.Near(most, []uint64{1, 0, 0})
	same(t, "Near of the greatest by 1", n, e, number(most))
	n, e = quot.Near(most, []uint64{2})
	same(t, "Near of the greatest by 2", n, e, number(two(maxBits-1)))
	n, e = quot.Near(two(maxBits-2), two(maxBits-1))
	same(t, "Near of just a half", n, e, new(big.Int))
	odd := two(maxBits - 2)
	odd[0] = 1
	n, e = quot.Near(odd, two(maxBits-1))
	same(t, "Near of a little more than a half", n, e, one)
	n, e = quot.Near(two(maxBits-2), most)
	same(t, "Near of a little more than a quarter", n, e, new(big.Int))
	n, e = quot.Near(under(less, 3), under([]uint64{2}, 4200))
	same(t, "Near with high limbs 0", n, e, new(big.Int).Rsh(number(less), 1))
}
