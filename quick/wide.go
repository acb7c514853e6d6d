package quick

import (
	"math/bits"

	"abacus/ieee"
)

// wide is a number of 128 bits, the lower limb first.
type wide [2]uint64

// product is a wide number times one limb, the lowest limb first.
type product [3]uint64

// times is w * p.
func times(w uint64, p wide) product {
	var n product
	high, low := bits.Mul64(w, p[0])
	n[0] = low
	top, mid := bits.Mul64(w, p[1])
	var carry uint64
	n[1], carry = bits.Add64(mid, high, 0)
	n[2] = top + carry
	return n
}

// plus is n + w, where n is w times a wide number: so no carry leaves it.
func (n product) plus(w uint64) product {
	var carry uint64
	n[0], carry = bits.Add64(n[0], w, 0)
	n[1], carry = bits.Add64(n[1], 0, carry)
	n[2] += carry
	return n
}

// head is n without its lowest limb.
func (n product) head() wide { return wide{n[1], n[2]} }

// round is the double of n * 2^exp.
func (n product) round(exp int) uint64 {
	d, _ := ieee.Round(false, n[:], exp, false)
	return d
}

// sameDouble tells whether the products least and most of rows, the second the greater one, are seen at once to have one double. The head of a row's product has 64 bits at least, and a middle between two doubles has 54: so none lies between two numbers that have one head, and something behind it.
func sameDouble(least product, most product) bool {
	return least[0] != 0 && least.head() == most.head()
}
