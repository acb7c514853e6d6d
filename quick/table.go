package quick

import (
	"abacus/api"
	"abacus/nat"
	"abacus/quot"
)

const (
	rowBits   = 128
	lastExact = 55 // 5^55 is the highest power of five of at most rowBits bits
)

// tens holds the powers of ten that are doubles without rounding.
var tens = [...]wide{
	{1}, {10}, {100}, {1000}, {10000}, {100000}, {1000000}, {10000000}, {100000000}, {1000000000},
	{10000000000}, {100000000000}, {1000000000000}, {10000000000000}, {100000000000000},
	{1000000000000000}, {10000000000000000}, {100000000000000000}, {1000000000000000000}, {10000000000000000000},
	{0x6bc75e2d63100000, 0x5}, {0x35c9adc5dea00000, 0x36}, {0x19e0c9bab2400000, 0x21e},
}

// inTable tells whether the table has a row for 5^q.
func inTable(q int) bool { return q >= api.MinTable && q <= api.MaxTable }

// exact tells whether the row of q is 5^q itself.
func exact(q int) bool { return q >= 0 && q <= lastExact }

// row is the highest 128 bits of 5^q, for a q of the table, and the exponent of 2 that goes with them. The whole table would be too long to be written down, so each row is made when it is asked for.
func row(q int) (wide, int) {
	if q < 0 {
		return rowBelow(-q)
	}
	n, _ := quot.Pow5(q)
	exp := nat.BitLen(n) - rowBits
	if exp < 0 {
		n, _ = nat.Shl(n, -exp)
	} else {
		n, _, _ = nat.Shr(n, exp)
	}
	return wide{n[0], n[1]}, exp
}

// rowBelow is row of -k, for a k above 0.
func rowBelow(k int) (wide, int) {
	n, _ := quot.Pow5(k)
	// No power of five but 1 is one of two, so n lies between two of them, and the quotient has just rowBits bits.
	up := nat.BitLen(n) + rowBits - 1
	one, _ := nat.Shl([]uint64{1}, up)
	p, _, _ := quot.DivMod(one, n)
	return wide{p[0], p[1]}, -up
}
