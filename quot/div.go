// Package quot is layer 2: long division, powers, whole roots. See shared/doc/02-quot.md.
package quot

import (
	"math/bits"

	"abacus/api"
	"abacus/nat"
)

// limbBits: how many binary digits a limb holds.
const limbBits = 64

// DivMod: quotient and remainder of a by b; ErrZero.
func DivMod(a []uint64, b []uint64) ([]uint64, []uint64, api.Errno) {
	if limbs(a) > api.MaxLimbs || limbs(b) > api.MaxLimbs {
		return nil, nil, api.ErrBig
	}
	a, b = a[:limbs(a)], b[:limbs(b)]
	switch {
	case len(b) == 0:
		return nil, nil, api.ErrZero
	case len(b) == 1:
		q, r, e := nat.DivSmall(a, b[0])
		return q, nat.FromUint(r), e
	case nat.Cmp(a, b) < 0:
		return nil, nat.Trim(a), api.OK
	}
	rest := make([]uint64, len(a)+1)
	copy(rest, a)
	q := divide(rest, b)
	return nat.Trim(q), nat.Trim(rest), api.OK
}

// Near: the whole number nearest to a / b, the even one of two; ErrZero.
func Near(a []uint64, b []uint64) ([]uint64, api.Errno) {
	q, r, e := DivMod(a, b)
	if e != api.OK {
		return nil, e
	}
	// The rest is held against what it lacks to b (it is below b), not twice it against b: twice it may be too big.
	lack, _ := nat.Sub(b, r)
	side := nat.Cmp(r, lack)
	if side < 0 || side == 0 && nat.Bit(q, 0) == 0 {
		return q, api.OK
	}
	return nat.Add(q, []uint64{1})
}

// limbs: how many limbs a has without its high zero limbs.
func limbs(a []uint64) int {
	return (nat.BitLen(a) + limbBits - 1) / limbBits
}

// divide: the digits of rest's quotient by b, one to a limb; what remains is left in rest. b is trimmed and has two limbs at least, rest has one limb on top that is 0 and no fewer limbs than b below it.
func divide(rest []uint64, b []uint64) []uint64 {
	out := make([]uint64, len(rest)-len(b))
digits:
	for at := len(out) - 1; at >= 0; at-- {
		part := rest[at : at+len(b)+1]
		out[at] = guess(part, b)
		owed := takeTimes(part, b, out[at])
		for {
			if owed == 0 {
				continue digits
			}
			out[at]--
			owed -= giveBack(part, b)
		}
	}
	return out
}

// guess: how often b goes into part, or a little more, never less: told from the three highest limbs of part and the two of b, both shifted so far that b's highest bit is 1, which keeps the guess close. part has one limb more than b and is less than b * 2^64.
func guess(part []uint64, b []uint64) uint64 {
	top := len(b) - 1
	turn := bits.LeadingZeros64(b[top])
	first, second := shifted(b, top, turn), shifted(b, top-1, turn)
	high, middle, low := shifted(part, top+1, turn), shifted(part, top, turn), shifted(part, top-1, turn)
	if high == first { // the quotient of the two highest by the first would be no single limb
		sum, over := bits.Add64(middle, first, 0)
		if over != 0 {
			return 1<<limbBits - 1
		}
		return lessened(1<<limbBits-1, sum, low, first, second)
	}
	digit, left := bits.Div64(high, middle, first)
	return lessened(digit, left, low, first, second)
}

// lessened: the guess digit, made less as long as the second limb of the divisor shows that it is too great; left is what digit times first leaves of the two highest limbs, low the limb below them.
func lessened(digit uint64, left uint64, low uint64, first uint64, second uint64) uint64 {
	for {
		high, under := bits.Mul64(digit, second)
		if high < left || high == left && under <= low {
			return digit
		}
		digit--
		left += first
		if left < first { // more than any product of two limbs from here on
			return digit
		}
	}
}

// shifted: limb i of a * 2^turn, with turn below 64.
func shifted(a []uint64, i int, turn int) uint64 {
	if i == 0 {
		return a[0] << turn
	}
	return a[i]<<turn | a[i-1]>>(limbBits-turn)
}

// takeTimes takes b * m out of part, which has one limb more than b, and answers 1 if it went below nothing, else 0.
func takeTimes(part []uint64, b []uint64, m uint64) uint64 {
	carry := uint64(0)
	for i, x := range b {
		high, low := bits.Mul64(x, m)
		low, more := bits.Add64(low, carry, 0)
		rest, less := bits.Sub64(part[i], low, 0)
		part[i], carry = rest, high+more+less
	}
	rest, less := bits.Sub64(part[len(b)], carry, 0)
	part[len(b)] = rest
	return less
}

// giveBack adds b to part, which has one limb more, and answers 1 if it went beyond part's limbs, else 0.
func giveBack(part []uint64, b []uint64) uint64 {
	carry := uint64(0)
	for i, x := range b {
		part[i], carry = bits.Add64(part[i], x, carry)
	}
	part[len(b)], carry = bits.Add64(part[len(b)], 0, carry)
	return carry
}
