package ieee_test

import (
	"encoding/binary"
	"math/big"
	"slices"
	"testing"

	"abacus/api"
)

const (
	top     = 1<<64 - 1
	maxInt  = 1<<63 - 1
	minInt  = -1 << 63
	maxBits = 64 * api.MaxLimbs
	minus   = api.Sign
)

// fill: n limbs x.
func fill(n int, x uint64) []uint64 {
	a := make([]uint64, n)
	for i := range a {
		a[i] = x
	}
	return a
}

// two: 2^n.
func two(n int) []uint64 {
	a := make([]uint64, n/64+1)
	a[n/64] = 1 << (n % 64)
	return a
}

// under: a with n limbs 0 on top.
func under(a []uint64, n int) []uint64 {
	return append(slices.Clone(a), make([]uint64, n)...)
}

// random: n limbs from a fixed row of numbers (splitmix64), so that every run tests the same.
func random(seed *uint64, n int) []uint64 {
	a := make([]uint64, n)
	for i := range a {
		*seed += 0x9e3779b97f4a7c15
		z := *seed
		z = (z ^ z>>30) * 0xbf58476d1ce4e5b9
		z = (z ^ z>>27) * 0x94d049bb133111eb
		a[i] = z ^ z>>31
	}
	return a
}

// between: a number from low to high.
func between(seed *uint64, low int, high int) int {
	return low + int(random(seed, 1)[0]%uint64(high-low+1))
}

// zeros: nothing in its spellings.
func zeros() [][]uint64 {
	return [][]uint64{nil, {}, {0}, {0, 0, 0}, make([]uint64, api.MaxLimbs+7)}
}

// positives: the finite doubles without a sign at the edges of classes, powers of two and whole numbers, and some at random; 0 is the first, api.Most the last of the edges.
func positives() []uint64 {
	list := []uint64{
		0, 1, 2, 3, 4, 5, 1<<51 - 1, 1 << 51, 1<<52 - 2, 1<<52 - 1, // subnormals
		1 << 52, 1<<52 + 1, 1<<53 - 1, 1 << 53, 1<<53 + 1, // the least normals
		0x3fdfffffffffffff, 0x3fe0000000000000, 0x3fe0000000000001, 0x3fefffffffffffff, // 0.5, 1
		0x3ff0000000000000, 0x3ff0000000000001, 0x3ff8000000000000, 0x4000000000000000, 0x4004000000000000, 0x4008000000000000,
		0x432fffffffffffff, 0x4330000000000000, 0x4330000000000001, 0x433fffffffffffff, 0x4340000000000000, 0x4340000000000001, // 2^52, 2^53
		0x43dfffffffffffff, 0x43e0000000000000, 0x43e0000000000001, 0x43efffffffffffff, 0x43f0000000000000, 0x43f0000000000001, // 2^63, 2^64
		0x7fe0000000000000, 0x7feffffffffffffe, api.Most,
	}
	seed := uint64(4)
	for _, x := range random(&seed, 200) {
		if x &^= minus; x < api.Inf {
			list = append(list, x)
		}
	}
	for _, x := range random(&seed, 200) { // around the whole numbers
		list = append(list, x&(1<<52-1)|uint64(between(&seed, 1015, 1095))<<52)
	}
	for _, x := range random(&seed, 100) { // few bits 1
		field := uint64(between(&seed, 0, 2046))
		list = append(list, x&(x>>3)<<between(&seed, 0, 51)&(1<<52-1)|field<<52)
	}
	return list
}

// nans: NaNs of either sign, with the ends of payloads.
func nans() []uint64 {
	return []uint64{api.NaN, api.NaN | minus, api.Inf + 1, api.Inf + 1 | minus, top, top &^ minus, 0x7ff8000000000001, 0xfff7ffffffffffff}
}

// doubles: those of positives, the infinity, all with either sign, and NaNs.
func doubles() []uint64 {
	var list []uint64
	for _, d := range append(positives(), api.Inf) {
		list = append(list, d, d|minus)
	}
	return append(list, nans()...)
}

// number: what a means.
func number(a []uint64) *big.Int {
	var bytes []byte
	for i := len(a) - 1; i >= 0; i-- {
		bytes = binary.BigEndian.AppendUint64(bytes, a[i])
	}
	return new(big.Int).SetBytes(bytes)
}

// limbs: the trimmed list of n.
func limbs(n *big.Int) []uint64 {
	bytes := n.FillBytes(make([]byte, (n.BitLen()+63)/64*8))
	var a []uint64
	for i := len(bytes); i > 0; i -= 8 {
		a = append(a, binary.BigEndian.Uint64(bytes[i-8:]))
	}
	return a
}

// units: how many times 2^-1074 a double without a sign is; the infinity counts as 2^1024.
func units(d uint64) *big.Int {
	field, f := uint(d>>52), d&(1<<52-1)
	if field == 0 {
		return new(big.Int).SetUint64(f)
	}
	n := new(big.Int).SetUint64(1<<52 + f)
	return n.Lsh(n, field-1)
}

// middle: how many times 2^-1075 the middle between d and the next double is.
func middle(d uint64) *big.Int {
	return new(big.Int).Add(units(d), units(d+1))
}

// versus: -1, 0 or 1 as n / d * 2^exp is below, the same as or above m * 2^-1075.
func versus(n *big.Int, d *big.Int, exp int, m *big.Int) int {
	left, right := new(big.Int).Set(n), new(big.Int).Mul(m, d)
	if exp+1075 >= 0 {
		left.Lsh(left, uint(exp+1075))
	} else {
		right.Lsh(right, uint(-exp-1075))
	}
	return left.Cmp(right)
}

// isNearest: whether x is what n / d * 2^exp rounds to, by the middles between x and its neighbours.
func isNearest(x uint64, neg bool, n *big.Int, d *big.Int, exp int, more bool) bool {
	size := x &^ minus
	if size > api.Inf || (x != size) != neg {
		return false
	}
	if n.Sign() == 0 {
		return size == 0
	}
	even := size&1 == 0
	if size > 0 {
		if c := versus(n, d, exp, middle(size-1)); c < 0 || c == 0 && !even && !more {
			return false
		}
	}
	if size < api.Inf {
		if c := versus(n, d, exp, middle(size)); c > 0 || c == 0 && (!even || more) {
			return false
		}
	}
	return true
}

// brief: enough of a natural to know it by.
func brief(a []uint64) []uint64 {
	if len(a) > 4 {
		return append(slices.Clone(a[:2]), a[len(a)-2:]...)
	}
	return a
}

// bits: got must be want beside OK.
func bits(t *testing.T, what string, got uint64, e api.Errno, want uint64) {
	t.Helper()
	if got != want || e != api.OK {
		t.Errorf("%s: %016x, error %d; want %016x", what, got, e, want)
	}
}

// noBits: 0 beside the error want.
func noBits(t *testing.T, what string, got uint64, e api.Errno, want api.Errno) {
	t.Helper()
	if got != 0 || e != want {
		t.Errorf("%s: %016x, error %d; want 0, error %d", what, got, e, want)
	}
}
