package fixed_test

import (
	"math"
	"math/big"
	"strings"
	"testing"

	"abacus/api"
	"abacus/fixed"
)

const (
	minus  = api.Sign
	maxInt = 1<<63 - 1
	minInt = -1 << 63
	least  = uint64(1)
)

// random: a number from a fixed row (splitmix64), so that every run tests the same.
func random(seed *uint64) uint64 {
	*seed += 0x9e3779b97f4a7c15
	z := *seed
	z = (z ^ z>>30) * 0xbf58476d1ce4e5b9
	z = (z ^ z>>27) * 0x94d049bb133111eb
	return z ^ z>>31
}

// between: a number from low to high.
func between(seed *uint64, low int, high int) int {
	return low + int(random(seed)%uint64(high-low+1))
}

// drawDouble: a finite double, not below 0; subnormal ones, small and great exponents and short fractions come often.
func drawDouble(seed *uint64) uint64 {
	field := [...]int{between(seed, 0, 2046), between(seed, 1023-60, 1023+70), between(seed, 0, 2), between(seed, 2043, 2046)}[between(seed, 0, 3)]
	x := random(seed) >> 12
	fraction := [...]uint64{0, 1, 1<<52 - 1, x, x, x >> 40 << 40}[between(seed, 0, 5)]
	return uint64(field)<<52 | fraction
}

// odd: the double t / 2^n for an odd t below 2^53 that is drawn.
func odd(seed *uint64, n int) uint64 {
	t := random(seed)>>between(seed, 11, 63) | 1
	return math.Float64bits(math.Ldexp(float64(t), -n))
}

// zeros: a row of n zeros.
func zeros(n int) string { return strings.Repeat("0", n) }

// power: 10^n.
func power(n int) *big.Rat {
	p := new(big.Int).Exp(big.NewInt(10), big.NewInt(int64(max(n, -n))), nil)
	if n < 0 {
		return new(big.Rat).SetFrac(big.NewInt(1), p)
	}
	return new(big.Rat).SetInt(p)
}

// worth: what a finite double is, without its sign.
func worth(d uint64) *big.Rat {
	return new(big.Rat).SetFloat64(math.Float64frombits(d &^ minus))
}

// nearest: the whole number nearest to r, of two the even one, and whether there were two.
func nearest(r *big.Rat) (*big.Int, bool) {
	w, rest := new(big.Int).DivMod(r.Num(), r.Denom(), new(big.Int))
	side := rest.Lsh(rest, 1).Cmp(r.Denom())
	if side > 0 || side == 0 && w.Bit(0) == 1 {
		w.Add(w, big.NewInt(1))
	}
	return w, side == 0
}

// holdPlaces: Places of a double of either sign against the document's words; tells whether it lay just between two.
func holdPlaces(t *testing.T, d uint64, n int) bool {
	t.Helper()
	w, tie := nearest(new(big.Rat).Mul(worth(d), power(n)))
	text := w.String()
	text = zeros(max(0, n+1-len(text))) + text
	whole, behind := text[:len(text)-n], text[len(text)-n:]
	for _, x := range []uint64{d, d ^ minus} {
		if a, b, e := fixed.Places(x, n); a != whole || b != behind || e != api.OK {
			t.Fatalf("Places(%016x, %d) = %q, %q, %d, want %q, %q", x, n, a, b, e, whole, behind)
		}
	}
	return tie
}

// firstPower: the k with 10^k at most r and r below 10^(k+1), found from a guess.
func firstPower(r *big.Rat, k int) int {
	for power(k).Cmp(r) > 0 {
		k--
	}
	for power(k+1).Cmp(r) <= 0 {
		k++
	}
	return k
}

// holdFigures: Figures of a double of either sign against the document's words; tells whether it lay just between two.
func holdFigures(t *testing.T, d uint64, n int) bool {
	t.Helper()
	digits, k, tie := zeros(n), 0, false
	if r := worth(d); r.Sign() != 0 {
		k = firstPower(r, int(math.Floor(math.Log10(math.Float64frombits(d&^minus)))))
		var w *big.Int
		w, tie = nearest(r.Mul(r, power(n-1-k)))
		digits = w.String()
		if len(digits) > n {
			digits, k = "1"+zeros(n-1), k+1
		}
	}
	for _, x := range []uint64{d, d ^ minus} {
		if s, p, e := fixed.Figures(x, n); s != digits || p != k || e != api.OK {
			t.Fatalf("Figures(%016x, %d) = %q, %d, %d, want %q, %d", x, n, s, p, e, digits, k)
		}
	}
	return tie
}

// holdAll: All of a double of either sign is normal, has its sign, and is worth what the double is.
func holdAll(t *testing.T, d uint64) api.Dec {
	t.Helper()
	var told api.Dec
	for _, x := range []uint64{d | minus, d &^ minus} {
		dec, e := fixed.All(x)
		if e != api.OK || dec.Neg != (x&minus != 0) || dec.Digits == "" || strings.Trim(dec.Digits, "0123456789") != "" {
			t.Fatalf("All(%016x) = %v, %d", x, dec, e)
		}
		zero := dec.Digits == "0" && dec.Exp == 0
		if !zero && (dec.Digits[0] == '0' || dec.Digits[len(dec.Digits)-1] == '0') {
			t.Fatalf("All(%016x) = %v: not normal", x, dec)
		}
		n, _ := new(big.Int).SetString(dec.Digits, 10)
		if r := new(big.Rat).SetInt(n); r.Mul(r, power(dec.Exp)).Cmp(worth(x)) != 0 {
			t.Fatalf("All(%016x) = %v: another number", x, dec)
		}
		told = dec
	}
	return told
}
