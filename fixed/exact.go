package fixed

import (
	"math/bits"
	"strings"

	"abacus/api"
	"abacus/ieee"
	"abacus/nat"
	"abacus/numeral"
	"abacus/quot"
)

func finite(d uint64) bool { return ieee.Class(d) < api.Infinite }

// exact is |d| as a normal Dec's digits and power of ten, for a finite d.
func exact(d uint64) (string, int) {
	p := ieee.Decode(d)
	if p.Class == api.Zero {
		return "0", 0
	}
	// An odd mantissa leaves the least power of two to be made good, and so no zero at the end of the digits behind the point.
	low := bits.TrailingZeros64(p.Mant)
	mant, exp := nat.FromUint(p.Mant>>low), p.Exp+low
	if exp < 0 {
		return behind(mant, -exp), exp
	}
	n, _ := nat.Shl(mant, exp)
	digits, _ := numeral.Digits(n)
	short := strings.TrimRight(digits, "0")
	return short, len(digits) - len(short)
}

// behind is the digits of mant over 2^n: since 2^-n is 5^n over 10^n, they are those of mant times 5^n.
func behind(mant []uint64, n int) string {
	five, _ := quot.Pow5(n)
	product, _ := nat.Mul(mant, five)
	digits, _ := numeral.Digits(product)
	return digits
}
