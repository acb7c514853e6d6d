package quick_test

import (
	"math"
	"math/big"
	"strings"

	"abacus/api"
	"abacus/quick"
)

const (
	minus  = api.Sign
	top    = 1<<64 - 1
	maxInt = 1<<63 - 1
	minInt = -1 << 63
	most   = api.MaxExp
	least  = 1 // the least double above 0
)

// random: a number from a fixed row (splitmix64), so that every run tests the same.
func random(seed *uint64) uint64 {
	*seed += 0x9e3779b97f4a7c15
	z := *seed
	z = (z ^ z>>30) * 0xbf58476d1ce4e5b9
	z = (z ^ z>>27) * 0x94d049bb133111eb
	return z ^ z>>31
}

// between: a number from low to high.
func between(seed *uint64, low int, high int) int {
	return low + int(random(seed)%uint64(high-low+1))
}

// dec: a Dec by its parts.
func dec(neg bool, digits string, exp int) api.Dec {
	return api.Dec{Neg: neg, Digits: digits, Exp: exp}
}

// far: numbers outside the table.
func far() []int {
	return []int{-343, -344, -400, -1000, -most, minInt, minInt + 1, 309, 310, 400, 1000, most, maxInt, maxInt - 1, 1 << 32, -1 << 32, 1<<32 + 1, 1 << 31}
}

// whole: a natural as a fraction.
func whole(w uint64) *big.Rat {
	return new(big.Rat).SetInt(new(big.Int).SetUint64(w))
}

// power: base^n.
func power(base int64, n int) *big.Rat {
	p := new(big.Int).Exp(big.NewInt(base), big.NewInt(int64(max(n, -n))), nil)
	if n < 0 {
		return new(big.Rat).SetFrac(big.NewInt(1), p)
	}
	return new(big.Rat).SetInt(p)
}

// product: all of them multiplied.
func product(list ...*big.Rat) *big.Rat {
	p := big.NewRat(1, 1)
	for _, x := range list {
		p.Mul(p, x)
	}
	return p
}

// double: what r, which isn't below 0, rounds to.
func double(r *big.Rat) uint64 {
	f, _ := r.Float64()
	return math.Float64bits(f)
}

// worth: what a double is; the infinity counts as 2^1024.
func worth(d uint64) *big.Rat {
	if d == api.Inf {
		return power(2, 1024)
	}
	return new(big.Rat).SetFloat64(math.Float64frombits(d))
}

// middle: the number halfway between a finite double, not below 0, and the next.
func middle(d uint64) *big.Rat {
	return product(new(big.Rat).Add(worth(d), worth(d+1)), big.NewRat(1, 2))
}

// fives: the greatest P * 2^exp at most 5^q, with a P of 128 bits, as a fraction.
func fives(q int) (*big.Rat, int) {
	five := power(5, q)
	exp := five.Num().BitLen() - five.Denom().BitLen() - 130
	for product(five, power(2, -exp)).Cmp(power(2, 128)) >= 0 {
		exp++
	}
	x := product(five, power(2, -exp))
	return new(big.Rat).SetInt(new(big.Int).Quo(x.Num(), x.Denom())), exp
}

// ends: the two numbers that Step has to round, for a q of the table.
func ends(w uint64, q int) (*big.Rat, *big.Rat) {
	hi, lo, exp, _ := quick.Power(q)
	p := new(big.Rat).Add(product(whole(hi), power(2, 64)), whole(lo))
	rest := product(whole(w), power(2, exp+q))
	a := product(p, rest)
	if q >= 0 && q <= 55 {
		return a, a
	}
	return a, new(big.Rat).Add(a, rest)
}

// step: what Step must tell, by the document's words.
func step(w uint64, q int) (uint64, bool) {
	if w == 0 {
		return 0, true
	}
	if q < api.MinTable || q > api.MaxTable {
		return 0, false
	}
	a, b := ends(w, q)
	if double(a) != double(b) {
		return 0, false
	}
	return double(a), true
}

// normal: whether d is a Dec, and normal.
func normal(d api.Dec) bool {
	if d.Exp < -most || d.Exp > most || d.Digits == "" || strings.Trim(d.Digits, "0123456789") != "" {
		return false
	}
	if d.Digits == "0" {
		return d.Exp == 0
	}
	return strings.Trim(d.Digits, "0") == d.Digits
}

// try: what Try must tell, by the document's words, from what Small and Step tell.
func try(d api.Dec) (uint64, bool) {
	if !normal(d) {
		return 0, false
	}
	sign := uint64(0)
	if d.Neg {
		sign = minus
	}
	if d.Digits == "0" {
		return sign, true
	}
	n, _ := new(big.Int).SetString(d.Digits[:min(19, len(d.Digits))], 10)
	w := n.Uint64()
	if len(d.Digits) <= 19 {
		x, sure := quick.Small(w, d.Exp)
		if !sure {
			x, sure = quick.Step(w, d.Exp)
		}
		if !sure {
			return 0, false
		}
		return x | sign, true
	}
	q := d.Exp + len(d.Digits) - 19
	x, sure := quick.Step(w, q)
	y, also := quick.Step(w+1, q)
	if !sure || !also || x != y {
		return 0, false
	}
	return x | sign, true
}

// decimal: the exact digits of r, whose denominator is a power of two, as a normal Dec.
func decimal(r *big.Rat) api.Dec {
	k := r.Denom().BitLen() - 1
	n := product(r, power(10, k))
	if !n.IsInt() {
		panic("no decimal: " + r.String())
	}
	digits := n.Num().String()
	short := strings.TrimRight(digits, "0")
	if short == "" {
		return dec(false, "0", 0)
	}
	return dec(false, short, len(digits)-len(short)-k)
}

// value: a Dec's value without its sign, of an exponent that isn't far off.
func value(d api.Dec) *big.Rat {
	n, ok := new(big.Int).SetString(d.Digits, 10)
	if !ok {
		panic("no digits: " + d.Digits)
	}
	return product(new(big.Rat).SetInt(n), power(10, d.Exp))
}

// drawDouble: a finite double above 0; subnormal ones, small and great exponents and short fractions come often.
func drawDouble(seed *uint64) uint64 {
	field := [...]int{between(seed, 0, 2046), between(seed, 1023-60, 1023+70), between(seed, 0, 2), between(seed, 2043, 2046)}[between(seed, 0, 3)]
	x := random(seed) >> 12
	fraction := [...]uint64{0, 1, 1<<52 - 1, x, x, x >> 40 << 40}[between(seed, 0, 5)]
	return max(least, uint64(field)<<52|fraction)
}

// drawWord: a uint64 of any length.
func drawWord(seed *uint64) uint64 {
	return random(seed) >> between(seed, 0, 63)
}
