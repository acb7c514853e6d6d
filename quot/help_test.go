package quot_test

import (
	"encoding/binary"
	"math/big"
	"slices"
	"testing"

	"abacus/api"
)

const (
	top     = 1<<64 - 1
	half    = 1 << 63
	maxInt  = 1<<63 - 1
	minInt  = -1 << 63
	maxBits = 64 * api.MaxLimbs
)

// fill: n limbs x.
func fill(n int, x uint64) []uint64 {
	a := make([]uint64, n)
	for i := range a {
		a[i] = x
	}
	return a
}

// two: 2^n.
func two(n int) []uint64 {
	a := make([]uint64, n/64+1)
	a[n/64] = 1 << (n % 64)
	return a
}

// under: a with n limbs 0 on top.
func under(a []uint64, n int) []uint64 {
	return append(slices.Clone(a), make([]uint64, n)...)
}

// random: n limbs from a fixed row of numbers (splitmix64), so that every run tests the same.
func random(seed *uint64, n int) []uint64 {
	a := make([]uint64, n)
	for i := range a {
		*seed += 0x9e3779b97f4a7c15
		z := *seed
		z = (z ^ z>>30) * 0xbf58476d1ce4e5b9
		z = (z ^ z>>27) * 0x94d049bb133111eb
		a[i] = z ^ z>>31
	}
	return a
}

// zeros: nothing in its spellings.
func zeros() [][]uint64 {
	return [][]uint64{nil, {}, {0}, {0, 0, 0}, make([]uint64, api.MaxLimbs+7)}
}

// samples: naturals from 1 on with the edges: ends of limbs, digits that are guessed too great, high limbs 0.
func samples() [][]uint64 {
	seed := uint64(1)
	return [][]uint64{
		{1}, {1, 0}, {2}, {3, 0, 0}, {10}, {half - 1}, {half}, {half + 1}, {top - 1}, {top}, {top, 0},
		{0, 1}, {0, 1, 0}, {1, 1}, {0, 8}, {top, 1}, {0, top}, {top, top}, {1, top}, {half, 1}, {top, half}, {0, half}, {top, half - 1},
		{0, 0, 1}, {1, 0, half}, {top, top, top}, {0, top, half}, {top, 0, half}, {0, 0, half, half - 1}, {3, 0, half}, {0, top - 1, half}, {0, 0, 0, half},
		{top, 0, top}, {1, 0, 0, 0, 0, 1, 0}, {1, 0, 1 << 61}, {top, top, 0, top, top}, {0, 0, top, top - 1},
		fill(9, top), fill(9, 1), under(fill(7, half), 3), two(577),
		random(&seed, 1), random(&seed, 2), random(&seed, 3), random(&seed, 8), under(random(&seed, 13), 2), random(&seed, 40),
	}
}

// number: what a means.
func number(a []uint64) *big.Int {
	var bytes []byte
	for i := len(a) - 1; i >= 0; i-- {
		bytes = binary.BigEndian.AppendUint64(bytes, a[i])
	}
	return new(big.Int).SetBytes(bytes)
}

// limbs: the trimmed list of n.
func limbs(n *big.Int) []uint64 {
	bytes := n.FillBytes(make([]byte, (n.BitLen()+63)/64*8))
	var a []uint64
	for i := len(bytes); i > 0; i -= 8 {
		a = append(a, binary.BigEndian.Uint64(bytes[i-8:]))
	}
	return a
}

// whole: the number that a decimal text writes.
func whole(t *testing.T, text string) *big.Int {
	t.Helper()
	n, ok := new(big.Int).SetString(text, 10)
	if !ok {
		t.Fatalf("no number: %q", text)
	}
	return n
}

// same: got must be the trimmed list of want beside OK.
func same(t *testing.T, what string, got []uint64, e api.Errno, want *big.Int) {
	t.Helper()
	if e != api.OK {
		t.Errorf("%s: error %d", what, e)
		return
	}
	if len(got) > 0 && got[len(got)-1] == 0 {
		t.Errorf("%s: not trimmed: %v", what, got)
	}
	if number(got).Cmp(want) != 0 {
		t.Errorf("%s: %x, want %x", what, number(got), want)
	}
}

// refused: an empty list beside the error want.
func refused(t *testing.T, what string, got []uint64, e api.Errno, want api.Errno) {
	t.Helper()
	if e != want || len(got) != 0 {
		t.Errorf("%s: %d limbs, error %d; want none, error %d", what, len(got), e, want)
	}
}
