package nat_test

import (
	"encoding/binary"
	"math/big"
	"slices"
	"testing"

	"abacus/api"
)

const (
	top     = 1<<64 - 1
	maxInt  = 1<<63 - 1
	minInt  = -1 << 63
	maxBits = 64 * api.MaxLimbs
)

// fill: n limbs x.
func fill(n int, x uint64) []uint64 {
	a := make([]uint64, n)
	for i := range a {
		a[i] = x
	}
	return a
}

// power: 2^n.
func power(n int) []uint64 {
	a := make([]uint64, n/64+1)
	a[n/64] = 1 << (n % 64)
	return a
}

// under: a with n limbs 0 on top.
func under(a []uint64, n int) []uint64 {
	return append(slices.Clone(a), make([]uint64, n)...)
}

// random: n limbs from a fixed row of numbers (splitmix64), so that every run tests the same.
func random(seed *uint64, n int) []uint64 {
	a := make([]uint64, n)
	for i := range a {
		*seed += 0x9e3779b97f4a7c15
		z := *seed
		z = (z ^ z>>30) * 0xbf58476d1ce4e5b9
		z = (z ^ z>>27) * 0x94d049bb133111eb
		a[i] = z ^ z>>31
	}
	return a
}

// samples: naturals with the edges: nothing in its spellings, ends of limbs, carries that run far, high limbs 0.
func samples() [][]uint64 {
	seed := uint64(1)
	return [][]uint64{
		nil, {}, {0}, {0, 0, 0},
		{1}, {1, 0}, {2}, {3, 0, 0}, {10}, {1 << 63}, {top - 1}, {top}, {top, 0},
		{0, 1}, {0, 1, 0}, {1, 1}, {0, 8}, {top, 1}, {0, top}, {top, top}, {1, top}, {1 << 63, 1},
		{0, 0, 1}, {top, top, top}, {0, 0, 0, 1 << 63}, {top, 0, top}, {1, 0, 0, 0, 0, 1, 0},
		fill(9, top), fill(9, 1), under(fill(7, 1<<63), 3), power(577),
		random(&seed, 1), random(&seed, 2), random(&seed, 3), random(&seed, 8), under(random(&seed, 13), 2), random(&seed, 40),
	}
}

// shifts: how far the samples are shifted.
func shifts() []int {
	return []int{0, 1, 2, 31, 62, 63, 64, 65, 66, 127, 128, 129, 191, 192, 200, 256, 576, 577, 578, 1000, 2559, 2560, 2561, 5000}
}

// number: what a means.
func number(a []uint64) *big.Int {
	var bytes []byte
	for i := len(a) - 1; i >= 0; i-- {
		bytes = binary.BigEndian.AppendUint64(bytes, a[i])
	}
	return new(big.Int).SetBytes(bytes)
}

// same: got must be the trimmed list of want beside OK.
func same(t *testing.T, what string, got []uint64, e api.Errno, want *big.Int) {
	t.Helper()
	if e != api.OK {
		t.Errorf("%s: error %d", what, e)
		return
	}
	if len(got) > 0 && got[len(got)-1] == 0 {
		t.Errorf("%s: not trimmed: %v", what, got)
	}
	if number(got).Cmp(want) != 0 {
		t.Errorf("%s: %x, want %x", what, number(got), want)
	}
}

// list: got must be just want beside OK.
func list(t *testing.T, what string, got []uint64, e api.Errno, want []uint64) {
	t.Helper()
	if e != api.OK || len(got) != len(want) || len(got) > 0 && !slices.Equal(got, want) {
		t.Errorf("%s: %v, error %d; want %v", what, got, e, want)
	}
}

// refused: an empty list beside the error want.
func refused(t *testing.T, what string, got []uint64, e api.Errno, want api.Errno) {
	t.Helper()
	if e != want || len(got) != 0 {
		t.Errorf("%s: %d limbs, error %d; want none, error %d", what, len(got), e, want)
	}
}
