package strtod_test

import (
	"math"
	"math/big"
	"strings"
	"testing"

	"abacus/api"
	"abacus/quick"
	"abacus/scan"
	"abacus/strtod"
)

const (
	minus  = api.Sign
	maxInt = 1<<63 - 1
	minInt = -1 << 63
	most   = api.MaxExp
)

// random: a number from a fixed row (splitmix64), so that every run tests the same.
func random(seed *uint64) uint64 {
	*seed += 0x9e3779b97f4a7c15
	z := *seed
	z = (z ^ z>>30) * 0xbf58476d1ce4e5b9
	z = (z ^ z>>27) * 0x94d049bb133111eb
	return z ^ z>>31
}

// between: a number from low to high.
func between(seed *uint64, low int, high int) int {
	return low + int(random(seed)%uint64(high-low+1))
}

// drawText: a text of from low to high bytes out of letters.
func drawText(seed *uint64, letters string, low int, high int) string {
	b := make([]byte, between(seed, low, high))
	for i := range b {
		b[i] = letters[between(seed, 0, len(letters)-1)]
	}
	return string(b)
}

// drawDouble: a finite double, not below 0; subnormal ones, small and great exponents and short fractions come often.
func drawDouble(seed *uint64) uint64 {
	field := [...]int{between(seed, 0, 2046), between(seed, 1023-60, 1023+70), between(seed, 0, 2), between(seed, 2043, 2046)}[between(seed, 0, 3)]
	x := random(seed) >> 12
	fraction := [...]uint64{0, 1, 1<<52 - 1, x, x, x >> 40 << 40}[between(seed, 0, 5)]
	return uint64(field)<<52 | fraction
}

// zeros: a row of n zeros.
func zeros(n int) string { return strings.Repeat("0", n) }

// dec: a Dec by its parts.
func dec(neg bool, digits string, exp int) api.Dec {
	return api.Dec{Neg: neg, Digits: digits, Exp: exp}
}

// power: base^n.
func power(base int64, n int) *big.Rat {
	p := new(big.Int).Exp(big.NewInt(base), big.NewInt(int64(max(n, -n))), nil)
	if n < 0 {
		return new(big.Rat).SetFrac(big.NewInt(1), p)
	}
	return new(big.Rat).SetInt(p)
}

// worth: what a double, not below 0, is; the infinity counts as 2^1024.
func worth(d uint64) *big.Rat {
	if d == api.Inf {
		return power(2, 1024)
	}
	return new(big.Rat).SetFloat64(math.Float64frombits(d))
}

// middle: the number halfway between a finite double, not below 0, and the next.
func middle(d uint64) *big.Rat {
	sum := new(big.Rat).Add(worth(d), worth(d+1))
	return sum.Mul(sum, big.NewRat(1, 2))
}

// decimal: all digits of r, whose denominator is a power of two, as a normal Dec.
func decimal(r *big.Rat) api.Dec {
	k := r.Denom().BitLen() - 1
	n := new(big.Rat).Mul(r, power(10, k))
	if !n.IsInt() {
		panic("no decimal: " + r.String())
	}
	digits := n.Num().String()
	short := strings.TrimRight(digits, "0")
	if short == "" {
		return dec(false, "0", 0)
	}
	return dec(false, short, len(digits)-len(short)-k)
}

// isDec: whether d is a Dec, by the document's words.
func isDec(d api.Dec) bool {
	if d.Digits == "" || strings.Trim(d.Digits, "0123456789") != "" || d.Exp < -most || d.Exp > most {
		return false
	}
	short := strings.TrimRight(d.Digits, "0")
	return short == "" || d.Exp+len(d.Digits)-len(short) <= most
}

// nearest: the double nearest to a Dec, by an exact fraction; a far exponent goes by the place of the first digit.
func nearest(d api.Dec) uint64 {
	x := uint64(0)
	digits := strings.TrimLeft(d.Digits, "0")
	switch {
	case digits == "" || d.Exp+len(digits) < -5000:
	case d.Exp+len(digits) > 5000:
		x = api.Inf
	default:
		n, _ := new(big.Int).SetString(digits, 10)
		f, _ := new(big.Rat).Mul(new(big.Rat).SetInt(n), power(10, d.Exp)).Float64()
		x = math.Float64bits(f)
	}
	if d.Neg {
		x |= minus
	}
	return x
}

// holdDec: Exact and Double of a Dec of either sign against what they must tell.
func holdDec(t *testing.T, d api.Dec, want uint64) {
	t.Helper()
	for range 2 {
		if x, e := strtod.Exact(d); x != want || e != api.OK {
			t.Fatalf("Exact(%v) = %016x, %d, want %016x", d, x, e, want)
		}
		if x, e := strtod.Double(d); x != want || e != api.OK {
			t.Fatalf("Double(%v) = %016x, %d, want %016x", d, x, e, want)
		}
		d.Neg, want = !d.Neg, want^minus
	}
}

// holdText: Parse, Whole and Road of a text against what layers 8 and 9 tell of it, and against the exact value.
func holdText(t *testing.T, s string) int {
	t.Helper()
	d, end := scan.Number(s)
	want, way := uint64(0), 0
	if end > 0 {
		want, way = nearest(d), 2
		if _, sure := quick.Try(d); sure {
			way = 1
		}
	}
	if x, used := strtod.Parse(s); x != want || used != end {
		t.Fatalf("Parse(%q) = %016x, %d, want %016x, %d", s, x, used, want, end)
	}
	if r := strtod.Road(s); r != way {
		t.Fatalf("Road(%q) = %d, want %d", s, r, way)
	}
	_, whole := scan.Whole(s)
	if !whole {
		want = 0
	}
	if x, ok := strtod.Whole(s); x != want || ok != whole {
		t.Fatalf("Whole(%q) = %016x, %v, want %016x, %v", s, x, ok, want, whole)
	}
	return way
}
