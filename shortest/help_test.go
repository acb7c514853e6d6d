package shortest_test

import (
	"math"
	"math/big"
	"strconv"
	"strings"
	"testing"

	"abacus/api"
	"abacus/shortest"
)

const (
	minus  = api.Sign
	maxInt = 1<<63 - 1
	minInt = -1 << 63
	most   = api.MaxExp
)

// random: a number from a fixed row (splitmix64), so that every run tests the same.
func random(seed *uint64) uint64 {
	*seed += 0x9e3779b97f4a7c15
	z := *seed
	z = (z ^ z>>30) * 0xbf58476d1ce4e5b9
	z = (z ^ z>>27) * 0x94d049bb133111eb
	return z ^ z>>31
}

// between: a number from low to high.
func between(seed *uint64, low int, high int) int {
	return low + int(random(seed)%uint64(high-low+1))
}

// drawDouble: a finite double, not below 0; subnormal ones, small and great exponents and short fractions come often.
func drawDouble(seed *uint64) uint64 {
	field := [...]int{between(seed, 0, 2046), between(seed, 1023-60, 1023+70), between(seed, 0, 2), between(seed, 2043, 2046)}[between(seed, 0, 3)]
	x := random(seed) >> 12
	fraction := [...]uint64{0, 1, 1<<52 - 1, x, x, x >> 40 << 40}[between(seed, 0, 5)]
	return uint64(field)<<52 | fraction
}

// edges: doubles at the ends of their classes, powers of two and of ten, and their neighbours.
func edges() []uint64 {
	list := []uint64{0, 1, 2, 3, 4, 5, 9, 10, 1<<52 - 1, 1 << 52, 1<<52 + 1, 1<<53 - 1, 1 << 53, api.One - 1, api.One, api.One + 1, api.Most - 1, api.Most, 0x433fffffffffffff, 0x4340000000000000, 0x4340000000000001}
	for k := -323; k <= 308; k += 3 {
		d := math.Float64bits(math.Pow10(k))
		list = append(list, d-1, d, d+1)
	}
	for k := -1074; k <= 1023; k += 19 {
		d := math.Float64bits(math.Ldexp(1, k))
		list = append(list, d-1, d, d+1)
	}
	return list
}

// zeros: a row of n zeros.
func zeros(n int) string { return strings.Repeat("0", n) }

// dec: a Dec by its parts.
func dec(neg bool, digits string, exp int) api.Dec {
	return api.Dec{Neg: neg, Digits: digits, Exp: exp}
}

// power: base^n.
func power(base int64, n int) *big.Rat {
	p := new(big.Int).Exp(big.NewInt(base), big.NewInt(int64(max(n, -n))), nil)
	if n < 0 {
		return new(big.Rat).SetFrac(big.NewInt(1), p)
	}
	return new(big.Rat).SetInt(p)
}

// worth: what a double, not below 0, is; the infinity counts as 2^1024.
func worth(d uint64) *big.Rat {
	if d == api.Inf {
		return power(2, 1024)
	}
	return new(big.Rat).SetFloat64(math.Float64frombits(d))
}

// middle: the number halfway between a finite double, not below 0, and the next.
func middle(d uint64) *big.Rat {
	sum := new(big.Rat).Add(worth(d), worth(d+1))
	return sum.Mul(sum, big.NewRat(1, 2))
}

// value: what a Dec is, without its sign.
func value(x api.Dec) *big.Rat {
	n, _ := new(big.Int).SetString(x.Digits, 10)
	return new(big.Rat).Mul(new(big.Rat).SetInt(n), power(10, x.Exp))
}

// decimal: all digits of r, whose denominator is a power of two, as a normal Dec.
func decimal(r *big.Rat) api.Dec {
	k := r.Denom().BitLen() - 1
	n := new(big.Rat).Mul(r, power(10, k))
	if !n.IsInt() {
		panic("no decimal: " + r.String())
	}
	return tidy(n.Num().String(), -k)
}

// tidy: a row of digits without zeros at its end, as a Dec.
func tidy(digits string, exp int) api.Dec {
	short := strings.TrimRight(digits, "0")
	if short == "" {
		return dec(false, "0", 0)
	}
	return dec(false, short, exp+len(digits)-len(short))
}

// readsBack: whether the library reads these digits as d, a double that is not below 0.
func readsBack(x api.Dec, d uint64) bool {
	f, _ := strconv.ParseFloat(x.Digits+"e"+strconv.Itoa(x.Exp), 64)
	return math.Float64bits(f) == d
}

// best: of the decimals of at most n figures that read back as d, not 0 and not below it, the nearest, as whole numbers of one power of ten are tried; of two the one that is even at that power. The second answer says whether there is one, the third whether there were two.
func best(d uint64, n int) (api.Dec, bool, bool) {
	r := worth(d)
	text := strconv.FormatFloat(math.Float64frombits(d), 'e', 25, 64)
	first, _ := strconv.Atoi(text[strings.IndexByte(text, 'e')+1:])
	exp := first - n + 1
	scaled := new(big.Rat).Mul(r, power(10, -exp))
	floor := new(big.Int).Div(scaled.Num(), scaled.Denom())
	told, found, two := api.Dec{}, false, false
	var least *big.Rat
	for i := int64(-3); i <= 4; i++ {
		w := new(big.Int).Add(floor, big.NewInt(i))
		if w.Sign() <= 0 {
			continue
		}
		x := tidy(w.String(), exp)
		if len(x.Digits) > n || !readsBack(x, d) {
			continue
		}
		far := new(big.Rat).Sub(r, value(x))
		far.Abs(far)
		if found {
			side := far.Cmp(least)
			two = side == 0
			if side > 0 || side == 0 && w.Bit(0) == 1 {
				continue
			}
		}
		told, found, least = x, true, far
	}
	return told, found, two
}

// holdWithin: Within of d, not below 0, with either sign; whether two were equally near.
func holdWithin(t *testing.T, d uint64, n int) bool {
	t.Helper()
	want, ok, two := dec(false, "0", 0), true, false
	if d != 0 {
		want, ok, two = best(d, n)
	}
	for _, sign := range []uint64{0, minus} {
		want.Neg = ok && sign != 0
		if x, got, e := shortest.Within(d|sign, n); x != want || got != ok || e != api.OK {
			t.Fatalf("Within(%016x, %d) = %v, %v, %d, want %v, %v", d|sign, n, x, got, e, want, ok)
		}
	}
	return two
}

// holdDigits: Digits of d, not below 0, with either sign, against the least number of figures that will do; how many they are.
func holdDigits(t *testing.T, d uint64) int {
	t.Helper()
	want, n := dec(false, "0", 0), 1
	if d != 0 {
		ok := false
		for n = 0; !ok; {
			n++
			want, ok, _ = best(d, n)
		}
	}
	if n > 17 {
		t.Fatalf("%d figures for %016x", n, d)
	}
	for _, sign := range []uint64{0, minus} {
		want.Neg = sign != 0
		if x, e := shortest.Digits(d | sign); x != want || e != api.OK {
			t.Fatalf("Digits(%016x) = %v, %d, want %v", d|sign, x, e, want)
		}
	}
	return n
}

// holdBounds: Bounds of d, not below 0, with either sign; and Holds of the bounds and of what lies just beside them.
func holdBounds(t *testing.T, d uint64) {
	t.Helper()
	lo, hi := dec(false, "0", 0), decimal(middle(d))
	if d > 0 {
		lo = decimal(middle(d - 1))
	}
	for _, sign := range []uint64{0, minus} {
		a, b, closed, e := shortest.Bounds(d | sign)
		if a != lo || b != hi || closed != (d%2 == 0) || e != api.OK {
			t.Fatalf("Bounds(%016x) = %v, %v, %v, %d, want %v, %v", d|sign, a, b, closed, e, lo, hi)
		}
		holdBeside(t, lo, d|sign, d%2 == 0, true)
		holdBeside(t, hi, d|sign, d%2 == 0, false)
	}
}

// holdBeside: Holds at a bound of d, and at one unit above and below its 40th digit further; inside says whether what lies above it reads back.
func holdBeside(t *testing.T, bound api.Dec, d uint64, closed bool, inside bool) {
	t.Helper()
	holdHolds(t, bound, d, closed)
	if bound.Digits == "0" {
		holdHolds(t, dec(false, "1", -400), d, inside)
		return
	}
	above := dec(false, bound.Digits+zeros(39)+"1", bound.Exp-40)
	holdHolds(t, above, d, inside)
	n, _ := new(big.Int).SetString(bound.Digits+zeros(40), 10)
	below := dec(false, n.Sub(n, big.NewInt(1)).String(), bound.Exp-40)
	holdHolds(t, below, d, !inside)
}

// holdHolds: Holds of x, with d's sign, is as wanted; and with the other sign false.
func holdHolds(t *testing.T, x api.Dec, d uint64, want bool) {
	t.Helper()
	x.Neg = d&minus != 0
	if ok, e := shortest.Holds(x, d); ok != want || e != api.OK {
		t.Fatalf("Holds(%v, %016x) = %v, %d, want %v", x, d, ok, e, want)
	}
	x.Neg = !x.Neg
	if ok, e := shortest.Holds(x, d); ok || e != api.OK {
		t.Fatalf("Holds(%v, %016x) = %v, %d, want false", x, d, ok, e)
	}
}
