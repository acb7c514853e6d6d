package nat_test

import (
	"math/big"
	"testing"

	"abacus/api"
	"abacus/nat"
)

// P1.7.
func TestShl(t *testing.T) {
	for _, a := range samples() {
		for _, n := range shifts() {
			s, e := nat.Shl(a, n)
			same(t, "Shl", s, e, new(big.Int).Lsh(number(a), uint(n)))
		}
	}
	for _, a := range [][]uint64{nil, {}, {0}, fill(5000, 0)} {
		for _, n := range []int{0, 1, maxBits, maxBits + 1, maxInt - 1, maxInt} {
			s, e := nat.Shl(a, n)
			list(t, "Shl of nothing", s, e, nil)
		}
	}
}

// P1.7.
func TestShlLimit(t *testing.T) {
	most := fill(api.MaxLimbs, top)
	s, e := nat.Shl(under(most, 9), 0)
	list(t, "most << 0", s, e, most)
	s, e = nat.Shl(most, 1)
	refused(t, "most << 1", s, e, api.ErrBig)
	s, e = nat.Shl([]uint64{1}, maxBits-1)
	list(t, "1 << 262143", s, e, power(maxBits-1))
	s, e = nat.Shl([]uint64{1}, maxBits)
	refused(t, "1 << 262144", s, e, api.ErrBig)
	s, e = nat.Shl([]uint64{3}, maxBits-2)
	same(t, "3 << 262142", s, e, new(big.Int).Lsh(big.NewInt(3), maxBits-2))
	s, e = nat.Shl([]uint64{3}, maxBits-1)
	refused(t, "3 << 262143", s, e, api.ErrBig)
	for _, n := range []int{maxBits + 64, 1 << 40, maxInt - 63, maxInt - 1, maxInt} {
		s, e = nat.Shl([]uint64{1}, n)
		refused(t, "1 << much", s, e, api.ErrBig)
		s, e = nat.Shl(most, n)
		refused(t, "most << much", s, e, api.ErrBig)
	}
	s, e = nat.Shl(power(maxBits), 0)
	refused(t, "big << 0", s, e, api.ErrBig)
}

// P1.7.
func TestShr(t *testing.T) {
	for _, a := range append(samples(), under(fill(api.MaxLimbs, top), 50), power(maxBits-1)) {
		for _, n := range append(shifts(), maxBits-1, maxBits, maxBits+1, 1<<40, maxInt-1, maxInt) {
			q, lost, e := nat.Shr(a, n)
			want := new(big.Int)
			if n <= 2*maxBits { // beyond, all is lost
				want.Rsh(number(a), uint(n))
			}
			same(t, "Shr", q, e, want)
			low := number(a).Sign() != 0 && int(number(a).TrailingZeroBits()) < n
			if lost != low {
				t.Errorf("Shr(%x, %d) lost %v", number(a), n, lost)
			}
		}
	}
	q, lost, e := nat.Shr([]uint64{0, 1}, 64)
	list(t, "2^64 >> 64", q, e, []uint64{1})
	if lost {
		t.Error("2^64 >> 64 loses a 1")
	}
}

// P1.7.
func TestLow(t *testing.T) {
	for _, a := range append(samples(), under(fill(api.MaxLimbs, top), 50), power(maxBits-1)) {
		for _, n := range append(shifts(), maxBits-1, maxBits, maxBits+1, 1<<40, maxInt-1, maxInt) {
			s, e := nat.Low(a, n)
			want := number(a)
			if n < 2*maxBits { // beyond, all of a is low
				mask := new(big.Int).Lsh(big.NewInt(1), uint(n))
				want.And(want, mask.Sub(mask, big.NewInt(1)))
			}
			same(t, "Low", s, e, want)
		}
	}
	s, e := nat.Low([]uint64{0, 5}, 66)
	list(t, "Low", s, e, []uint64{0, 1})
}

// P1.7: what is refused, and that an operand that is too big comes ahead of ErrArg.
func TestShiftsRefused(t *testing.T) {
	big := fill(api.MaxLimbs+1, 1)
	for _, c := range []struct {
		what string
		a    []uint64
		n    int
		want api.Errno
	}{
		{"nothing by -1", nil, -1, api.ErrArg},
		{"5 by -1", []uint64{5}, -1, api.ErrArg},
		{"5 by -64", []uint64{5}, -64, api.ErrArg},
		{"5 by the least int", []uint64{5}, minInt, api.ErrArg},
		{"most by -1", under(fill(api.MaxLimbs, top), 20), -1, api.ErrArg},
		{"big by 0", big, 0, api.ErrBig},
		{"big by 1", big, 1, api.ErrBig},
		{"big by its length", big, maxBits + 64, api.ErrBig},
		{"big by the greatest int", big, maxInt, api.ErrBig},
		{"big by -1", big, -1, api.ErrBig},
		{"big by the least int", big, minInt, api.ErrBig},
	} {
		s, e := nat.Shl(c.a, c.n)
		refused(t, "Shl: "+c.what, s, e, c.want)
		s, e = nat.Low(c.a, c.n)
		refused(t, "Low: "+c.what, s, e, c.want)
		s, lost, e := nat.Shr(c.a, c.n)
		refused(t, "Shr: "+c.what, s, e, c.want)
		if lost {
			t.Errorf("Shr: %s: lost beside an error", c.what)
		}
	}
}
