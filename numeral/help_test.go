package numeral_test

import (
	"encoding/binary"
	"math/big"
	"slices"
	"strings"
	"testing"

	"abacus/api"
)

const (
	top     = 1<<64 - 1
	maxInt  = 1<<63 - 1
	minInt  = -1 << 63
	maxBits = 64 * api.MaxLimbs
	letters = "0123456789abcdefghijklmnopqrstuvwxyz"
)

// fill: n limbs x.
func fill(n int, x uint64) []uint64 {
	a := make([]uint64, n)
	for i := range a {
		a[i] = x
	}
	return a
}

// under: a with n limbs 0 on top.
func under(a []uint64, n int) []uint64 {
	return append(slices.Clone(a), make([]uint64, n)...)
}

// random: n limbs from a fixed row of numbers (splitmix64), so that every run tests the same.
func random(seed *uint64, n int) []uint64 {
	a := make([]uint64, n)
	for i := range a {
		*seed += 0x9e3779b97f4a7c15
		z := *seed
		z = (z ^ z>>30) * 0xbf58476d1ce4e5b9
		z = (z ^ z>>27) * 0x94d049bb133111eb
		a[i] = z ^ z>>31
	}
	return a
}

// zeros: nothing in its spellings.
func zeros() [][]uint64 {
	return [][]uint64{nil, {}, {0}, {0, 0, 0}, make([]uint64, api.MaxLimbs+7)}
}

// samples: naturals from 1 on with the edges: single digits, ends of limbs, zeros among the limbs, high limbs 0.
func samples() [][]uint64 {
	seed := uint64(1)
	list := [][]uint64{
		{1, 0}, {7, 0, 0}, {99}, {100}, {255}, {1295}, {1296}, {1 << 62}, {1 << 63}, {top - 1}, {top}, {top, 0},
		{0, 1}, {0, 1, 0}, {1, 1}, {0, top}, {top, top}, {0, 0, 1}, {top, 0, top}, {0, 0, 0, 1 << 63}, {1, 0, 0, 0, 0, 1, 0},
		fill(9, top), under(fill(7, 1<<63), 3), under([]uint64{35}, api.MaxLimbs),
		random(&seed, 1), random(&seed, 2), random(&seed, 3), random(&seed, 8), under(random(&seed, 13), 2), random(&seed, 40),
	}
	for n := range uint64(37) {
		list = append(list, []uint64{n + 1})
	}
	return list
}

// aroundPowers: base^n - 1, base^n and base^n + 1, where the count of digits changes.
func aroundPowers(base int, n int) [][]uint64 {
	p := new(big.Int).Exp(big.NewInt(int64(base)), big.NewInt(int64(n)), nil)
	one := big.NewInt(1)
	return [][]uint64{list(new(big.Int).Sub(p, one)), list(p), list(new(big.Int).Add(p, one))}
}

// number: what a means.
func number(a []uint64) *big.Int {
	var bytes []byte
	for i := len(a) - 1; i >= 0; i-- {
		bytes = binary.BigEndian.AppendUint64(bytes, a[i])
	}
	return new(big.Int).SetBytes(bytes)
}

// list: the trimmed list of n.
func list(n *big.Int) []uint64 {
	bytes := n.FillBytes(make([]byte, (n.BitLen()+63)/64*8))
	var a []uint64
	for i := len(bytes); i > 0; i -= 8 {
		a = append(a, binary.BigEndian.Uint64(bytes[i-8:]))
	}
	return a
}

// spelled: the digits of a in the base, by another arithmetic.
func spelled(a []uint64, base int, upper bool) string {
	s := number(a).Text(base)
	if upper {
		return strings.ToUpper(s)
	}
	return s
}

// brief: enough of a text to know it by.
func brief(s string) string {
	if len(s) > 60 {
		return s[:30] + ".." + s[len(s)-30:]
	}
	return s
}

// text: got must be want beside OK.
func text(t *testing.T, what string, got string, e api.Errno, want string) {
	t.Helper()
	if got != want || e != api.OK {
		t.Errorf("%s: %q (%d bytes), error %d; want %q (%d bytes)", what, brief(got), len(got), e, brief(want), len(want))
	}
}

// noText: no text beside the error want.
func noText(t *testing.T, what string, got string, e api.Errno, want api.Errno) {
	t.Helper()
	if got != "" || e != want {
		t.Errorf("%s: %q, error %d; want none, error %d", what, brief(got), e, want)
	}
}

// limbs: got must be just want, at the place 0 and beside OK.
func limbs(t *testing.T, what string, got []uint64, at int, e api.Errno, want []uint64) {
	t.Helper()
	if len(got) != len(want) || len(got) > 0 && !slices.Equal(got, want) || at != 0 || e != api.OK {
		t.Errorf("%s: %d limbs, place %d, error %d; want %d limbs", what, len(got), at, e, len(want))
	}
}

// noLimbs: an empty list beside the place and the error that are wanted.
func noLimbs(t *testing.T, what string, got []uint64, at int, e api.Errno, place int, want api.Errno) {
	t.Helper()
	if len(got) != 0 || at != place || e != want {
		t.Errorf("%s: %d limbs, place %d, error %d; want none, place %d, error %d", what, len(got), at, e, place, want)
	}
}
