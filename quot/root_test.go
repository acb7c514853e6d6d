package quot_test

import (
	"math/big"
	"testing"

	"abacus/api"
	"abacus/quot"
)

// rooted: Root of a must be what math/big answers.
func rooted(t *testing.T, a []uint64) {
	t.Helper()
	r, exact, e := quot.Root(a)
	want := new(big.Int).Sqrt(number(a))
	same(t, "Root", r, e, want)
	if exact != (want.Mul(want, want).Cmp(number(a)) == 0) {
		t.Errorf("Root(%x) is told exact: %v", number(a), exact)
	}
}

// P2.4.
func TestRootExamples(t *testing.T) {
	for _, c := range []struct {
		a, want []uint64
		exact   bool
	}{
		{[]uint64{1}, []uint64{1}, true}, {[]uint64{2}, []uint64{1}, false}, {[]uint64{3}, []uint64{1}, false}, {[]uint64{15}, []uint64{3}, false}, {[]uint64{16}, []uint64{4}, true},
		{[]uint64{0, 1}, []uint64{1 << 32}, true}, {[]uint64{top}, []uint64{1<<32 - 1}, false},
		{fill(256, top), fill(128, top), false}, {under(fill(256, top), 9), fill(128, top), false},
	} {
		r, exact, e := quot.Root(c.a)
		same(t, "Root", r, e, number(c.want))
		if exact != c.exact {
			t.Errorf("Root(%x) is told exact: %v", number(c.a), exact)
		}
	}
	for _, zero := range zeros() {
		r, exact, e := quot.Root(zero)
		same(t, "Root of 0", r, e, new(big.Int))
		if !exact {
			t.Error("Root of 0 isn't told exact")
		}
	}
}

// P2.4.
func TestRoot(t *testing.T) {
	for n := range uint64(3000) {
		rooted(t, []uint64{n})
	}
	for _, a := range samples() {
		rooted(t, a)
	}
	seed := uint64(8)
	for n := range api.MaxRoot + 1 {
		rooted(t, random(&seed, n))
		rooted(t, fill(n, top))
		rooted(t, append(make([]uint64, n/2), fill(n-n/2, half)...))
	}
	for n := range 64*3 + 2 {
		rooted(t, two(n))
	}
	rooted(t, two(64*api.MaxRoot-1))
	rooted(t, two(64*api.MaxRoot-2))
}

// P2.4: squares, one below and one above.
func TestRootOfSquares(t *testing.T) {
	seed := uint64(9)
	one := big.NewInt(1)
	roots := append(samples(), random(&seed, 100), random(&seed, 128), fill(128, top), fill(127, top), two(64*128-1))
	for _, root := range roots {
		square := new(big.Int).Mul(number(root), number(root))
		r, exact, e := quot.Root(limbs(square))
		same(t, "Root of a square", r, e, number(root))
		if !exact {
			t.Errorf("Root of %x^2 isn't told exact", number(root))
		}
		rooted(t, limbs(new(big.Int).Add(square, one)))
		rooted(t, limbs(new(big.Int).Sub(square, one)))
	}
}

// The error: more than MaxRoot limbs.
func TestRootErrors(t *testing.T) {
	for _, a := range [][]uint64{two(64 * api.MaxRoot), under(two(64*api.MaxRoot), 3), fill(api.MaxRoot+1, top), fill(api.MaxLimbs, top), fill(api.MaxLimbs+1, 1)} {
		r, exact, e := quot.Root(a)
		refused(t, "Root", r, e, api.ErrBig)
		if exact {
			t.Error("Root is told exact beside an error")
		}
	}
	rooted(t, under(fill(api.MaxRoot, 1), api.MaxLimbs))
}
