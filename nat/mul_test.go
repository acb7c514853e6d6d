package nat_test

import (
	"math/big"
	"testing"

	"abacus/api"
	"abacus/nat"
)

// P1.5.
func TestMul(t *testing.T) {
	p, e := nat.Mul([]uint64{top}, []uint64{top})
	list(t, "Mul", p, e, []uint64{1, top - 1})
	for _, a := range samples() {
		for _, b := range samples() {
			p, e := nat.Mul(a, b)
			same(t, "Mul", p, e, new(big.Int).Mul(number(a), number(b)))
		}
	}
	seed := uint64(2)
	for _, n := range [][2]int{{100, 100}, {1, 4095}, {4000, 90}, {2048, 2048}, {1000, 3096}} {
		a, b := random(&seed, n[0]), random(&seed, n[1])
		p, e := nat.Mul(a, b)
		same(t, "Mul of long lists", p, e, new(big.Int).Mul(number(a), number(b)))
	}
}

// P1.5.
func TestMulLimit(t *testing.T) {
	most := fill(api.MaxLimbs, top)
	p, e := nat.Mul(under(most, 200), []uint64{1, 0})
	list(t, "most * 1", p, e, most)
	p, e = nat.Mul(nil, most)
	list(t, "0 * most", p, e, nil)
	p, e = nat.Mul(most, []uint64{2})
	refused(t, "most * 2", p, e, api.ErrBig)
	p, e = nat.Mul(most, most)
	refused(t, "most * most", p, e, api.ErrBig)
	p, e = nat.Mul(power(maxBits-1), []uint64{2})
	refused(t, "2^262143 * 2", p, e, api.ErrBig)
	p, e = nat.Mul(power(maxBits-2), []uint64{2})
	list(t, "2^262142 * 2", p, e, power(maxBits-1))
	// The limbs of both are one more than the limit: the product may still keep to it.
	p, e = nat.Mul(power(64*2000), power(maxBits-64*2000-1))
	list(t, "2^128000 * 2^134143", p, e, power(maxBits-1))
	p, e = nat.Mul(power(64*2000+1), power(maxBits-64*2000-1))
	refused(t, "2^128001 * 2^134143", p, e, api.ErrBig)
	p, e = nat.Mul(fill(2048, top), fill(2049, top))
	refused(t, "one limb too many", p, e, api.ErrBig)
	big := fill(api.MaxLimbs+1, 1)
	p, e = nat.Mul(big, nil)
	refused(t, "big * 0", p, e, api.ErrBig)
	p, e = nat.Mul([]uint64{0}, big)
	refused(t, "0 * big", p, e, api.ErrBig)
}

// P1.5.
func TestMulAdd(t *testing.T) {
	p, e := nat.MulAdd([]uint64{top}, 10, 9)
	list(t, "MulAdd", p, e, []uint64{top, 9})
	factors := []uint64{0, 1, 2, 9, 10, 1 << 32, 1 << 63, top - 1, top}
	for _, a := range samples() {
		for _, m := range factors {
			for _, c := range factors {
				p, e := nat.MulAdd(a, m, c)
				want := new(big.Int).Mul(number(a), new(big.Int).SetUint64(m))
				same(t, "MulAdd", p, e, want.Add(want, new(big.Int).SetUint64(c)))
			}
		}
	}
}

// P1.5.
func TestMulAddLimit(t *testing.T) {
	most := fill(api.MaxLimbs, top)
	p, e := nat.MulAdd(under(most, 7), 1, 0)
	list(t, "most * 1 + 0", p, e, most)
	p, e = nat.MulAdd(most, 0, 5)
	list(t, "most * 0 + 5", p, e, []uint64{5})
	p, e = nat.MulAdd(most, 1, 1)
	refused(t, "most * 1 + 1", p, e, api.ErrBig)
	p, e = nat.MulAdd(most, top, top)
	refused(t, "most * top + top", p, e, api.ErrBig)
	p, e = nat.MulAdd(power(maxBits-1), 2, 0)
	refused(t, "2^262143 * 2", p, e, api.ErrBig)
	p, e = nat.MulAdd(power(maxBits), 0, 0)
	refused(t, "big * 0 + 0", p, e, api.ErrBig)
}

// P1.6.
func TestDivSmall(t *testing.T) {
	q, r, e := nat.DivSmall([]uint64{0, 1}, 10)
	list(t, "DivSmall", q, e, []uint64{1844674407370955161})
	if r != 6 {
		t.Errorf("2^64 by 10 leaves %d", r)
	}
	most := fill(api.MaxLimbs, top)
	for _, a := range append(samples(), most, under(most, 1234)) {
		for _, d := range []uint64{1, 2, 3, 7, 10, 1000, 1 << 32, 1<<32 + 1, 1 << 63, 1<<63 + 1, top - 1, top} {
			q, r, e := nat.DivSmall(a, d)
			wantQ, wantR := new(big.Int).QuoRem(number(a), new(big.Int).SetUint64(d), new(big.Int))
			same(t, "DivSmall", q, e, wantQ)
			if r != wantR.Uint64() {
				t.Errorf("%x by %d leaves %d", number(a), d, r)
			}
		}
	}
}

// P1.6.
func TestDivSmallRefused(t *testing.T) {
	big := fill(api.MaxLimbs+1, 1)
	for _, c := range []struct {
		what string
		a    []uint64
		d    uint64
		want api.Errno
	}{
		{"nothing by 0", nil, 0, api.ErrZero},
		{"1 by 0", []uint64{1}, 0, api.ErrZero},
		{"most by 0", fill(api.MaxLimbs, top), 0, api.ErrZero},
		{"a long list by 0", under([]uint64{9}, 2*api.MaxLimbs), 0, api.ErrZero},
		{"big by 3", big, 3, api.ErrBig},
		{"big by 0: ErrBig ahead of ErrZero", big, 0, api.ErrBig},
	} {
		q, r, e := nat.DivSmall(c.a, c.d)
		refused(t, c.what, q, e, c.want)
		if r != 0 {
			t.Errorf("%s: the remainder is %d", c.what, r)
		}
	}
}
