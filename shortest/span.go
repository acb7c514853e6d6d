package shortest

import (
	"strconv"

	"abacus/api"
	"abacus/ieee"
	"abacus/nat"
	"abacus/numeral"
	"abacus/quot"
	"abacus/scan"
)

// finest: the power of two that the last bit of the least doubles counts.
const finest = -1074

// span is a finite double without its sign, and the decimals between which all read back as it.
type span struct {
	mid    api.Dec
	lo     api.Dec
	hi     api.Dec
	closed bool
}

func spanOf(d uint64) span {
	a := ieee.Abs(d)
	p := ieee.Decode(a)
	// Halfway to the next below is the next below's own halfway upwards; so the narrower step below a power of two needs no rule.
	lo := exact(0, 0)
	if p.Class != api.Zero {
		lo = halfway(ieee.Down(a))
	}
	return span{mid: exact(p.Mant, p.Exp), lo: lo, hi: halfway(a), closed: a%2 == 0}
}

// halfway is the number between a finite double, not below 0, and the one above it; for the greatest, that from which on all is infinite.
func halfway(a uint64) api.Dec {
	p := ieee.Decode(a)
	if p.Class == api.Zero {
		return exact(1, finest-1)
	}
	return exact(2*p.Mant+1, p.Exp-1)
}

// exact is mant * 2^exp as a normal Dec.
func exact(mant uint64, exp int) api.Dec {
	n := nat.FromUint(mant)
	if exp > 0 {
		n, _ = nat.Shl(n, exp)
		exp = 0
	}
	// 2^-k is 5^k over 10^k.
	five, _ := quot.Pow5(-exp)
	n, _ = nat.Mul(n, five)
	digits, _ := numeral.Digits(n)
	return normal(digits, exp)
}

func normal(digits string, exp int) api.Dec {
	x, _ := scan.Norm(api.Dec{Digits: digits, Exp: exp})
	return x
}

// holds tells whether a normal x, not below 0, reads back as the double.
func (s span) holds(x api.Dec) bool {
	low, high := order(s.lo, x), order(x, s.hi)
	return low < 0 && high < 0 || s.closed && low <= 0 && high <= 0
}

// order is -1, 0 or 1 as a is below b, equal or above: both normal and not below 0.
func order(a api.Dec, b api.Dec) int {
	c, _ := scan.Cmp(a, b)
	return c
}

// within is the decimal of at most n figures, 1 to 17, that reads back and is nearest; false if none does.
func (s span) within(n int) (api.Dec, bool) {
	cut := len(s.mid.Digits) - n
	if cut <= 0 {
		return s.mid, true
	}
	// Only the two decimals of n figures about the double need be looked at: all others lie beyond them, on the same side.
	head, _ := strconv.ParseUint(s.mid.Digits[:n], 10, 64)
	near, far := head, head+1
	if tail := s.mid.Digits[n:]; tail > "5" || tail == "5" && head%2 == 1 {
		near, far = far, near
	}
	for _, u := range [...]uint64{near, far} {
		if x := normal(strconv.FormatUint(u, 10), s.mid.Exp+cut); s.holds(x) {
			return x, true
		}
	}
	return api.Dec{}, false
}
