package chars

import (
	"strings"

	"abacus/api"
	"abacus/ieee"
	"abacus/remain"
	"abacus/soft"
)

// behind: the double that the places of Substr stay below. Whole numbers below 2^53 are doubles, and rounding keeps the greater ones above them: so every place stands to this sum as it does to the exact one.
func behind(m uint64, n uint64) uint64 { return soft.Add(remain.Near(m), remain.Near(n)) }

// piece: a copy of the bytes of s whose place is at least m, rounded, and below end; nothing if one of the two is a NaN.
func piece(s string, m uint64, end uint64) string {
	first := remain.Near(m)
	if ieee.Class(first) == api.NotANumber || ieee.Class(end) == api.NotANumber {
		return ""
	}
	low, high := place(s, first), place(s, end)
	if low >= high {
		return ""
	}
	return strings.Clone(s[low-1 : high-1])
}

// place: the whole number or infinity d, or where it lies ahead of the first byte or behind the last, the place of that byte or the one behind it.
func place(s string, d uint64) int {
	last := len(s) + 1
	if c, _ := ieee.Compare(d, api.One); c < 0 {
		return 1
	}
	if c, _ := ieee.Compare(d, ieee.FromInt(int64(last))); c > 0 {
		return last
	}
	i, _ := ieee.ToInt(d)
	return int(i)
}
