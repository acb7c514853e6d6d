package ieee_test

import (
	"math/big"
	"slices"
	"testing"

	"abacus/api"
	"abacus/ieee"
)

// cut: the whole part of a finite double without its sign, and whether that is all of it.
func cut(d uint64) (*big.Int, bool) {
	n, rest := new(big.Int).QuoRem(units(d&^minus), new(big.Int).Lsh(big.NewInt(1), 1074), new(big.Int))
	return n, rest.Sign() == 0
}

// P4.6: Integral is true of finite whole numbers alone, both zeros among them.
func TestIntegral(t *testing.T) {
	for d, want := range map[uint64]bool{
		0: true, minus: true, 1: false, minus | 1: false, 1 << 52: false, 0x3fe0000000000000: false, api.One: true, 0xbff0000000000000: true,
		0x3ff8000000000000: false, 0x4008000000000000: true, 0x400c000000000000: false, 0x432fffffffffffff: false, 0x4330000000000001: true,
		api.Most: true, api.Inf: false, api.Inf | minus: false, api.NaN: false, top: false,
	} {
		if got := ieee.Integral(d); got != want {
			t.Errorf("Integral(%016x) = %v", d, got)
		}
	}
	for _, d := range doubles() {
		want := false
		if d&^minus < api.Inf {
			_, want = cut(d)
		}
		if got := ieee.Integral(d); got != want {
			t.Errorf("Integral(%016x) = %v", d, got)
		}
	}
}

// P4.7: FromInt and FromUint are the rounding of a whole number; 0 gives the bits 0.
func TestFromWhole(t *testing.T) {
	for i, want := range map[int64]uint64{
		0: 0, 1: api.One, -1: 0xbff0000000000000, 2: 0x4000000000000000, -3: 0xc008000000000000,
		1<<53 - 1: 0x433fffffffffffff, 1 << 53: 0x4340000000000000, 1<<53 + 1: 0x4340000000000000, 1<<53 + 2: 0x4340000000000001, 1<<53 + 3: 0x4340000000000002, -1<<53 - 1: 0xc340000000000000, -1<<53 - 3: 0xc340000000000002,
		maxInt: 0x43e0000000000000, maxInt - 511: 0x43e0000000000000, maxInt - 512: 0x43dfffffffffffff, minInt: 0xc3e0000000000000, minInt + 1: 0xc3e0000000000000, minInt + 513: 0xc3dfffffffffffff,
	} {
		bits(t, "FromInt", ieee.FromInt(i), api.OK, want)
	}
	for u, want := range map[uint64]uint64{
		0: 0, 1: api.One, 10: 0x4024000000000000, 1<<53 + 1: 0x4340000000000000, 1 << 63: 0x43e0000000000000, 1<<63 + 1024: 0x43e0000000000000, 1<<63 + 1025: 0x43e0000000000001, 1<<63 + 3*1024: 0x43e0000000000002,
		top: 0x43f0000000000000, top - 1023: 0x43f0000000000000, top - 1024: 0x43efffffffffffff,
	} {
		bits(t, "FromUint", ieee.FromUint(u), api.OK, want)
	}
}

// P4.7: the same for numbers of every length, held against the middles of the doubles.
func TestFromWholeAtRandom(t *testing.T) {
	seed := uint64(47)
	one := big.NewInt(1)
	for _, u := range random(&seed, 3000) {
		u >>= between(&seed, 0, 63)
		if between(&seed, 0, 1) == 1 { // near a middle
			u = u&^0x3ff | 0x400 + uint64(between(&seed, 0, 2)) - 1
		}
		n := new(big.Int).SetUint64(u)
		if d := ieee.FromUint(u); !isNearest(d, false, n, one, 0, false) {
			t.Errorf("FromUint(%d) = %016x", u, d)
		}
		i := int64(u)
		n = new(big.Int).Abs(big.NewInt(i))
		if d := ieee.FromInt(i); !isNearest(d, i < 0, n, one, 0, false) {
			t.Errorf("FromInt(%d) = %016x", i, d)
		}
	}
}

// P4.8: Whole is the sign and the whole part of each finite double, ErrFinite of all others.
func TestWhole(t *testing.T) {
	for _, d := range doubles() {
		neg, n, e := ieee.Whole(d)
		if d&^minus >= api.Inf {
			if neg || len(n) != 0 || e != api.ErrFinite {
				t.Errorf("Whole(%016x) = %v, %v, %d; want ErrFinite", d, neg, n, e)
			}
			continue
		}
		want, _ := cut(d)
		if neg != (d&minus != 0) || !slices.Equal(n, limbs(want)) || e != api.OK {
			t.Errorf("Whole(%016x) = %v, %v, %d; want %v", d, neg, n, e, want)
		}
	}
	for _, c := range []struct {
		d    uint64
		neg  bool
		want []uint64
	}{
		{0, false, nil}, {minus, true, nil}, {0xbfe0000000000000, true, nil}, {0x3fefffffffffffff, false, nil}, {minus | 1, true, nil}, {0x4004000000000000, false, []uint64{2}},
		{0xc3f0000000000000, true, []uint64{0, 1}}, {0x43efffffffffffff, false, []uint64{top - 2047}}, {0x4400000000000000, false, []uint64{0, 2}}, {api.Most, false, append(make([]uint64, 15), top-2047)},
	} {
		if neg, n, e := ieee.Whole(c.d); neg != c.neg || !slices.Equal(n, c.want) || e != api.OK {
			t.Errorf("Whole(%016x) = %v, %v, %d; want %v, %v", c.d, neg, n, e, c.neg, c.want)
		}
	}
}

// P4.8: ToInt cuts towards 0, from -2^63 to 2^63 - 1.
func TestToInt(t *testing.T) {
	for _, c := range []struct {
		d    uint64
		want int64
		e    api.Errno
	}{
		{0, 0, api.OK}, {minus, 0, api.OK}, {1, 0, api.OK}, {0xbfe0000000000000, 0, api.OK}, {0x3fefffffffffffff, 0, api.OK}, {0xbfefffffffffffff, 0, api.OK}, {api.One, 1, api.OK}, {0xbff0000000000000, -1, api.OK},
		{0x4004000000000000, 2, api.OK}, {0xc004000000000000, -2, api.OK}, {0x400fffffffffffff, 3, api.OK}, {0xc00fffffffffffff, -3, api.OK}, {0x4340000000000001, 1<<53 + 2, api.OK},
		{0x43dfffffffffffff, maxInt - 1023, api.OK}, {0xc3dfffffffffffff, -maxInt + 1023, api.OK}, {0xc3e0000000000000, minInt, api.OK},
		{0x43e0000000000000, 0, api.ErrRange}, {0x43e0000000000001, 0, api.ErrRange}, {0xc3e0000000000001, 0, api.ErrRange}, {0x43efffffffffffff, 0, api.ErrRange}, {0xc3efffffffffffff, 0, api.ErrRange},
		{0x43f0000000000000, 0, api.ErrRange}, {0xc3f0000000000000, 0, api.ErrRange}, {0x4400000000000000, 0, api.ErrRange}, {api.Most, 0, api.ErrRange}, {api.Most | minus, 0, api.ErrRange},
		{api.Inf, 0, api.ErrFinite}, {api.Inf | minus, 0, api.ErrFinite}, {api.NaN, 0, api.ErrFinite}, {top, 0, api.ErrFinite}, {api.Inf + 1, 0, api.ErrFinite},
	} {
		if i, e := ieee.ToInt(c.d); i != c.want || e != c.e {
			t.Errorf("ToInt(%016x) = %d, %d; want %d, %d", c.d, i, e, c.want, c.e)
		}
	}
	for _, d := range doubles() {
		if d&^minus >= api.Inf {
			continue
		}
		n, _ := cut(d)
		if d&minus != 0 {
			n.Neg(n)
		}
		i, e := ieee.ToInt(d)
		if n.IsInt64() && (e != api.OK || n.Int64() != i) || !n.IsInt64() && (i != 0 || e != api.ErrRange) {
			t.Errorf("ToInt(%016x) = %d, %d; want %v", d, i, e, n)
		}
	}
}
