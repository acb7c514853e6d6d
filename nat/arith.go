package nat

import (
	"math/bits"

	"abacus/api"
)

// Add: a + b.
func Add(a []uint64, b []uint64) ([]uint64, api.Errno) {
	a, b, e := limitedPair(a, b)
	if e != api.OK {
		return nil, e
	}
	if len(a) < len(b) {
		a, b = b, a
	}
	out := widened(a, 1)
	addTo(out, b)
	return limited(out)
}

// Sum: all of them added up; nothing of none.
func Sum(list ...[]uint64) ([]uint64, api.Errno) {
	most := 0
	for _, a := range list {
		a, e := limited(a)
		if e != api.OK {
			return nil, e
		}
		most = max(most, len(a))
	}
	// One limb on top is room enough: the carries into it are fewer than the addends, and they are fewer than 2^64.
	out := make([]uint64, most+1)
	for _, a := range list {
		addTo(out, trimmed(a))
	}
	return limited(out)
}

// Sub: a - b; ErrBelow if a is less.
func Sub(a []uint64, b []uint64) ([]uint64, api.Errno) {
	a, b, e := limitedPair(a, b)
	if e != api.OK {
		return nil, e
	}
	if Cmp(a, b) < 0 {
		return nil, api.ErrBelow
	}
	out := widened(a, 0)
	subFrom(out, b)
	return limited(out)
}

// Mul: a * b.
func Mul(a []uint64, b []uint64) ([]uint64, api.Errno) {
	a, b, e := limitedPair(a, b)
	if e != api.OK {
		return nil, e
	}
	if len(a) == 0 || len(b) == 0 {
		return nil, api.OK
	}
	// A product has as many limbs as both together, or one fewer: what is too big anyway isn't worked out.
	if len(a)+len(b)-1 > api.MaxLimbs {
		return nil, api.ErrBig
	}
	out := make([]uint64, len(a)+len(b))
	for i, m := range a {
		out[i+len(b)] = addTimes(out[i:i+len(b)], b, m)
	}
	return limited(out)
}

// MulAdd: a * m + c.
func MulAdd(a []uint64, m uint64, c uint64) ([]uint64, api.Errno) {
	a, e := limited(a)
	if e != api.OK {
		return nil, e
	}
	out := make([]uint64, len(a)+1)
	carry := c
	for i, x := range a {
		high, low := bits.Mul64(x, m)
		low, more := bits.Add64(low, carry, 0)
		out[i], carry = low, high+more
	}
	out[len(a)] = carry
	return limited(out)
}

// DivSmall: quotient and remainder of a by d; ErrZero.
func DivSmall(a []uint64, d uint64) ([]uint64, uint64, api.Errno) {
	a, e := limited(a)
	if e != api.OK {
		return nil, 0, e
	}
	if d == 0 {
		return nil, 0, api.ErrZero
	}
	out := make([]uint64, len(a))
	rest := uint64(0)
	for i := len(a) - 1; i >= 0; i-- {
		out[i], rest = bits.Div64(rest, a[i], d)
	}
	return trimmed(out), rest, api.OK
}

// addTo adds a into out, whose limbs are more than a's and enough for the sum.
func addTo(out []uint64, a []uint64) {
	carry := uint64(0)
	for i, x := range a {
		out[i], carry = bits.Add64(out[i], x, carry)
	}
	for i := len(a); carry != 0; i++ {
		out[i], carry = bits.Add64(out[i], 0, carry)
	}
}

// subFrom takes a out of out, which is at least a.
func subFrom(out []uint64, a []uint64) {
	borrow := uint64(0)
	for i, x := range a {
		out[i], borrow = bits.Sub64(out[i], x, borrow)
	}
	for i := len(a); borrow != 0; i++ {
		out[i], borrow = bits.Sub64(out[i], 0, borrow)
	}
}

// addTimes adds a * m into out, which has as many limbs as a, and answers the limb that is carried beyond.
func addTimes(out []uint64, a []uint64, m uint64) uint64 {
	carry := uint64(0)
	for i, x := range a {
		high, low := bits.Mul64(x, m)
		low, more := bits.Add64(low, out[i], 0)
		high += more
		low, more = bits.Add64(low, carry, 0)
		out[i], carry = low, high+more
	}
	return carry
}
