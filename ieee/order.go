package ieee

import (
	"cmp"

	"abacus/api"
)

// Compare: -1, 0 or 1 by value (both zeros alike); false if one is a NaN.
func Compare(a uint64, b uint64) (int, bool) {
	i, oka := Rank(a)
	j, okb := Rank(b)
	if !oka || !okb {
		return 0, false
	}
	return cmp.Compare(i, j), true
}

// Total: -1, 0 or 1 in the order of all 2^64 patterns: -NaN, -Inf .. -0, 0 .. Inf, NaN.
func Total(a uint64, b uint64) int {
	return cmp.Compare(place(a), place(b))
}

// Rank: the place of d among the doubles: 0 of both zeros, 1 of the least above, -1 of the greatest below; false of a NaN.
func Rank(d uint64) (int64, bool) {
	if Class(d) == api.NotANumber {
		return 0, false
	}
	i := int64(Abs(d)) // without its sign a double's bits count upward as its value does
	if d&api.Sign != 0 {
		return -i, true
	}
	return i, true
}

// AtRank: the double at that place; false beyond the infinities.
func AtRank(i int64) (uint64, bool) {
	d := uint64(i)
	if i < 0 {
		d = -d
	}
	if d > api.Inf {
		return 0, false
	}
	return signed(i < 0, d), true
}

// Up: the next double above.
func Up(d uint64) uint64 {
	switch {
	case Class(d) == api.NotANumber:
		return api.NaN
	case d == api.Inf:
		return d
	case d == api.Sign:
		return 1
	case d&api.Sign != 0:
		return d - 1
	}
	return d + 1
}

// Down: the next double below.
func Down(d uint64) uint64 {
	if Class(d) == api.NotANumber {
		return api.NaN
	}
	return Neg(Up(Neg(d)))
}

// place is where a pattern stands in the order of all: those with the sign bit count downward, as numbers below 0.
func place(d uint64) int64 {
	if d&api.Sign != 0 {
		return int64(d ^ (api.Sign - 1))
	}
	return int64(d)
}
