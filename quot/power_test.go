package quot_test

import (
	"math/big"
	"strconv"
	"testing"

	"abacus/api"
	"abacus/nat"
	"abacus/quot"
)

// raised: a^n by math/big.
func raised(a []uint64, n int) *big.Int {
	return new(big.Int).Exp(number(a), big.NewInt(int64(n)), nil)
}

// P2.3.
func TestPow(t *testing.T) {
	for _, c := range []struct {
		a    []uint64
		n    int
		want string
	}{
		{[]uint64{7}, 3, "343"}, {nil, 0, "1"}, {[]uint64{0, 0}, 0, "1"}, {[]uint64{5}, 0, "1"}, {[]uint64{5, 0}, 1, "5"},
		{[]uint64{2}, 64, "18446744073709551616"}, {[]uint64{0, 1}, 2, "340282366920938463463374607431768211456"},
	} {
		p, e := quot.Pow(c.a, c.n)
		same(t, "Pow", p, e, whole(t, c.want))
	}
	for _, a := range append(samples(), zeros()...) {
		for n := range 40 {
			p, e := quot.Pow(a, n)
			same(t, "Pow", p, e, raised(a, n))
		}
		p, e := quot.Pow(a, 99)
		same(t, "Pow", p, e, raised(a, 99))
	}
}

// P2.3: of 0 and 1 every exponent is taken.
func TestPowOfNothingAndOne(t *testing.T) {
	for _, n := range []int{1, 2, 63, 64, maxBits, 1 << 62, maxInt - 1, maxInt} {
		for _, zero := range zeros() {
			p, e := quot.Pow(zero, n)
			same(t, "Pow of 0", p, e, new(big.Int))
		}
		for _, one := range [][]uint64{{1}, {1, 0, 0}, under([]uint64{1}, api.MaxLimbs)} {
			p, e := quot.Pow(one, n)
			same(t, "Pow of 1", p, e, big.NewInt(1))
		}
	}
}

// P2.3: the greatest power of MaxLimbs limbs is answered, the next one refused.
func TestPowLimit(t *testing.T) {
	limit := new(big.Int).Lsh(big.NewInt(1), maxBits)
	seed := uint64(4)
	bases := [][]uint64{{2}, {3}, {4}, {5, 0, 0}, {6}, {7}, {10}, {16}, {1 << 32}, {half}, {top}, {0, 1}, {1, 1}, {top, top}, {0, 0, half}, random(&seed, 5), random(&seed, 63), fill(64, top), random(&seed, 1000), fill(2048, top), two(64*2048 - 1), two(64 * 2048), random(&seed, 2049), fill(api.MaxLimbs, top), two(maxBits - 1), {1 << 62, 5}}
	for _, a := range bases {
		base := number(a)
		most, n := big.NewInt(1), 0
		for step := 1 << 18; step > 0; step /= 2 {
			if (base.BitLen()-1)*step > maxBits {
				continue
			}
			next := new(big.Int).Mul(most, new(big.Int).Exp(base, big.NewInt(int64(step)), nil))
			if next.Cmp(limit) < 0 {
				most, n = next, n+step
			}
		}
		name := "Pow with the exponent " + strconv.Itoa(n)
		p, e := quot.Pow(a, n)
		same(t, name, p, e, most)
		for _, more := range []int{n + 1, n + 2, 2*n + 1, maxBits, maxBits + 1, 1 << 40, 1 << 62, maxInt - 1, maxInt} {
			p, e = quot.Pow(a, more)
			refused(t, name+" and more", p, e, api.ErrBig)
		}
	}
	p, e := quot.Pow([]uint64{2}, 262143)
	same(t, "2^262143", p, e, number(two(262143)))
	p, e = quot.Pow([]uint64{2}, 262144)
	refused(t, "2^262144", p, e, api.ErrBig)
}

// The errors and their order: the base too big, the exponent below 0, the answer too big.
func TestPowErrors(t *testing.T) {
	tooBig := fill(api.MaxLimbs+1, 1)
	for _, n := range []int{minInt, -1, 0, 1, 2, maxInt} {
		p, e := quot.Pow(tooBig, n)
		refused(t, "Pow of a base too big", p, e, api.ErrBig)
	}
	for _, n := range []int{minInt, minInt + 1, -maxBits, -64, -3, -1} {
		for _, a := range [][]uint64{nil, {0}, {1}, {2}, fill(api.MaxLimbs, top)} {
			p, e := quot.Pow(a, n)
			refused(t, "Pow", p, e, api.ErrArg)
		}
		p, e := quot.Pow5(n)
		refused(t, "Pow5", p, e, api.ErrArg)
		p, e = quot.Pow10(n)
		refused(t, "Pow10", p, e, api.ErrArg)
	}
}

// P2.3.
func TestPow5AndPow10(t *testing.T) {
	p, e := quot.Pow5(27)
	same(t, "Pow5(27)", p, e, whole(t, "7450580596923828125"))
	p, e = quot.Pow10(19)
	same(t, "Pow10(19)", p, e, whole(t, "10000000000000000000"))
	for n := range 700 {
		p, e = quot.Pow5(n)
		same(t, "Pow5", p, e, raised([]uint64{5}, n))
		p, e = quot.Pow10(n)
		same(t, "Pow10", p, e, raised([]uint64{10}, n))
	}
	// 5^112899 < 2^262144 < 5^112900, 10^78913 < 2^262144 < 10^78914.
	p, e = quot.Pow5(112899)
	same(t, "the greatest Pow5", p, e, raised([]uint64{5}, 112899))
	p, e = quot.Pow10(78913)
	same(t, "the greatest Pow10", p, e, raised([]uint64{10}, 78913))
	for _, more := range []int{1, 2, 1000, maxInt - 112899} {
		p, e = quot.Pow5(112899 + more)
		refused(t, "Pow5 beyond", p, e, api.ErrBig)
		p, e = quot.Pow10(78913 + more)
		refused(t, "Pow10 beyond", p, e, api.ErrBig)
	}
}

// logged: Log of a must be the n with base^n at most a and base^(n+1) above it.
func logged(t *testing.T, a []uint64, base uint64) {
	t.Helper()
	n, e := quot.Log(a, base)
	if e != api.OK || n < 0 || n >= maxBits {
		t.Errorf("Log(%x, %d) = %d, error %d", number(a), base, n, e)
		return
	}
	p := raised([]uint64{base}, n)
	if p.Cmp(number(a)) > 0 || p.Mul(p, new(big.Int).SetUint64(base)).Cmp(number(a)) <= 0 {
		t.Errorf("Log(%x, %d) = %d", number(a), base, n)
	}
}

// P2.5.
func TestLogExamples(t *testing.T) {
	for _, c := range []struct {
		a    []uint64
		base uint64
		want int
	}{
		{[]uint64{1}, 2, 0}, {[]uint64{999}, 10, 2}, {[]uint64{1000}, 10, 3}, {[]uint64{0, 1}, 2, 64}, {[]uint64{5}, 7, 0}, {[]uint64{1, 0}, top, 0},
		{[]uint64{top}, top, 1}, {[]uint64{top - 1}, top, 0}, {two(262143), 2, 262143}, {fill(api.MaxLimbs, top), 2, 262143}, {[]uint64{7, 0, 0}, 7, 1},
	} {
		if n, e := quot.Log(c.a, c.base); e != api.OK || n != c.want {
			t.Errorf("Log(%x, %d) = %d, error %d; want %d", number(c.a), c.base, n, e, c.want)
		}
	}
}

// P2.5: just at each power, one below it and one above it.
func TestLog(t *testing.T) {
	one := []uint64{1}
	for _, base := range []uint64{2, 3, 5, 7, 10, 16, 36, 1000, 1 << 32, 1<<32 + 1, half, top - 1, top} {
		for _, n := range []int{1, 2, 3, 4, 5, 7, 8, 15, 16, 17, 31, 64, 100} {
			p, _ := quot.Pow([]uint64{base}, n)
			below, _ := nat.Sub(p, one)
			above, _ := nat.Add(p, one)
			for i, a := range [][]uint64{below, p, above} {
				want := n
				if i == 0 {
					want--
				}
				if got, e := quot.Log(under(a, i), base); e != api.OK || got != want {
					t.Errorf("Log around %d^%d = %d, error %d; want %d", base, n, got, e, want)
				}
			}
		}
		for _, a := range samples() {
			logged(t, a, base)
		}
	}
}

// P2.5: naturals of MaxLimbs limbs, about the greatest powers that have no more.
func TestLogLimit(t *testing.T) {
	seed := uint64(6)
	one := []uint64{1}
	for _, base := range []uint64{2, 3, 10, 1 << 32, half + 1, top} {
		logged(t, fill(api.MaxLimbs, top), base)
		logged(t, under(random(&seed, api.MaxLimbs), 99), base)
		logged(t, two(64*2048), base)
		n, e := quot.Log(fill(api.MaxLimbs, top), base)
		p, f := quot.Pow([]uint64{base}, n)
		if e != api.OK || f != api.OK {
			t.Fatalf("the greatest power of %d: errors %d, %d", base, e, f)
		}
		below, _ := nat.Sub(p, one)
		if m, _ := quot.Log(p, base); m != n {
			t.Errorf("Log of the greatest power of %d is %d, want %d", base, m, n)
		}
		if m, _ := quot.Log(below, base); m != n-1 {
			t.Errorf("Log below the greatest power of %d is %d, want %d", base, m, n-1)
		}
	}
}

// The errors and their order: too big, zero, a base below 2.
func TestLogErrors(t *testing.T) {
	tooBig := fill(api.MaxLimbs+1, 1)
	for _, base := range []uint64{0, 1, 2, 10, top} {
		if n, e := quot.Log(tooBig, base); n != 0 || e != api.ErrBig {
			t.Errorf("Log(too big, %d) = %d, error %d", base, n, e)
		}
		for _, zero := range zeros() {
			if n, e := quot.Log(zero, base); n != 0 || e != api.ErrZero {
				t.Errorf("Log(0, %d) = %d, error %d", base, n, e)
			}
		}
	}
	for _, base := range []uint64{0, 1} {
		for _, a := range [][]uint64{{1}, {9}, fill(api.MaxLimbs, top)} {
			if n, e := quot.Log(a, base); n != 0 || e != api.ErrArg {
				t.Errorf("Log(%d limbs, %d) = %d, error %d", len(a), base, n, e)
			}
		}
	}
}
