// Package nat is layer 1: naturals as lists of 64-bit limbs, lowest first. See shared/doc/01-nat.md.
package nat

import (
	"math/bits"

	"abacus/api"
)

// limbBits: how many binary digits a limb holds.
const limbBits = 64

// Trim: a as new memory without its high zero limbs.
func Trim(a []uint64) []uint64 {
	return widened(trimmed(a), 0)
}

// FromUint: the natural of x.
func FromUint(x uint64) []uint64 {
	if x == 0 {
		return nil
	}
	return []uint64{x}
}

// ToUint: a as one limb, or false if it doesn't fit.
func ToUint(a []uint64) (uint64, bool) {
	a = trimmed(a)
	switch len(a) {
	case 0:
		return 0, true
	case 1:
		return a[0], true
	}
	return 0, false
}

// BitLen: the number of bits of a without leading zeros; 0 of nothing.
func BitLen(a []uint64) int {
	a = trimmed(a)
	if len(a) == 0 {
		return 0
	}
	top := len(a) - 1
	return top*limbBits + bits.Len64(a[top])
}

// Bit: the bit at place i (0 the lowest); 0 outside.
func Bit(a []uint64, i int) int {
	if i < 0 || i/limbBits >= len(a) {
		return 0
	}
	return int(a[i/limbBits] >> uint(i%limbBits) & 1)
}

// Trail: the number of zero bits below the lowest one; 0 of nothing.
func Trail(a []uint64) int {
	for i, x := range a {
		if x != 0 {
			return i*limbBits + bits.TrailingZeros64(x)
		}
	}
	return 0
}

// Cmp: -1, 0 or 1.
func Cmp(a []uint64, b []uint64) int {
	a, b = trimmed(a), trimmed(b)
	if len(a) != len(b) {
		return sign(len(a) > len(b))
	}
	for i := len(a) - 1; i >= 0; i-- {
		if a[i] != b[i] {
			return sign(a[i] > b[i])
		}
	}
	return 0
}

// sign: 1 for greater, else -1.
func sign(greater bool) int {
	if greater {
		return 1
	}
	return -1
}

// trimmed: a without its high zero limbs, in a's own memory: to be read, never to be changed or answered where a is a caller's.
func trimmed(a []uint64) []uint64 {
	n := len(a)
	for n > 0 && a[n-1] == 0 {
		n--
	}
	return a[:n:n]
}

// limited: a trimmed, in its own memory (an operand to be read, or a list of our own to be answered), or ErrBig.
func limited(a []uint64) ([]uint64, api.Errno) {
	a = trimmed(a)
	if len(a) > api.MaxLimbs {
		return nil, api.ErrBig
	}
	return a, api.OK
}

// limitedPair: two operands trimmed to be read, or ErrBig if one is too big.
func limitedPair(a []uint64, b []uint64) ([]uint64, []uint64, api.Errno) {
	a, e := limited(a)
	if e != api.OK {
		return nil, nil, e
	}
	b, e = limited(b)
	if e != api.OK {
		return nil, nil, e
	}
	return a, b, api.OK
}

// widened: a copied into new memory, with more limbs 0 on top.
func widened(a []uint64, more int) []uint64 {
	out := make([]uint64, len(a)+more)
	copy(out, a)
	return out
}
