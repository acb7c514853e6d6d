package nat_test

import (
	"math/big"
	"slices"
	"testing"

	"abacus/api"
	"abacus/nat"
)

// P1.1.
func TestTrim(t *testing.T) {
	list(t, "Trim", nat.Trim([]uint64{5, 0, 0}), 0, []uint64{5})
	list(t, "Trim", nat.Trim([]uint64{0, 0}), 0, nil)
	list(t, "Trim", nat.Trim([]uint64{0, 7}), 0, []uint64{0, 7})
	list(t, "Trim of nil", nat.Trim(nil), 0, nil)
	list(t, "Trim of the empty list", nat.Trim([]uint64{}), 0, nil)
	for _, a := range samples() {
		same(t, "Trim", nat.Trim(a), 0, number(a))
	}
	for _, n := range []int{api.MaxLimbs, api.MaxLimbs + 1, 3 * api.MaxLimbs} {
		list(t, "Trim of a long list", nat.Trim(under(fill(n, 3), 5)), 0, fill(n, 3))
	}
	list(t, "Trim of many zeros", nat.Trim(fill(3*api.MaxLimbs, 0)), 0, nil)
}

// P1.1.
func TestFromUint(t *testing.T) {
	list(t, "FromUint(0)", nat.FromUint(0), 0, nil)
	for _, x := range []uint64{1, 2, 10, 1 << 63, top} {
		list(t, "FromUint", nat.FromUint(x), 0, []uint64{x})
	}
}

// P1.1.
func TestToUint(t *testing.T) {
	lists := append(samples(), under(fill(1, 77), 2*api.MaxLimbs), power(maxBits+1), fill(2*api.MaxLimbs, 0))
	for _, a := range lists {
		n := number(a)
		x, ok := nat.ToUint(a)
		if ok != n.IsUint64() || ok && x != n.Uint64() || !ok && x != 0 {
			t.Errorf("ToUint(%x) = %d, %v", n, x, ok)
		}
	}
}

// P1.2.
func TestBitLen(t *testing.T) {
	lists := append(samples(), power(maxBits+70), under(power(100), 2*api.MaxLimbs), fill(2*api.MaxLimbs, 0))
	for _, a := range lists {
		if n := nat.BitLen(a); n != number(a).BitLen() {
			t.Errorf("BitLen(%x) = %d", number(a), n)
		}
	}
	for i := range 200 {
		if n := nat.BitLen(power(i)); n != i+1 {
			t.Errorf("BitLen(2^%d) = %d", i, n)
		}
	}
}

// P1.2.
func TestBit(t *testing.T) {
	for _, a := range append(samples(), power(maxBits+70)) {
		n := number(a)
		for i := range n.BitLen() + 130 {
			if b := nat.Bit(a, i); b != int(n.Bit(i)) {
				t.Errorf("Bit(%x, %d) = %d", n, i, b)
			}
		}
	}
	for _, a := range [][]uint64{nil, {top}, {0, 8}, fill(5000, top)} {
		for _, i := range []int{-1, -2, -63, -64, -65, minInt + 1, minInt, 64 * 5000, 1 << 32, 1 << 62, maxInt - 63, maxInt} {
			if b := nat.Bit(a, i); b != 0 {
				t.Errorf("Bit of %d limbs at %d = %d", len(a), i, b)
			}
		}
	}
}

// P1.2.
func TestTrail(t *testing.T) {
	for _, a := range append(samples(), power(maxBits+70), under(power(100), 2*api.MaxLimbs)) {
		if n := nat.Trail(a); n != int(number(a).TrailingZeroBits()) {
			t.Errorf("Trail(%x) = %d", number(a), n)
		}
	}
	if n := nat.Trail(fill(2*api.MaxLimbs, 0)); n != 0 {
		t.Errorf("Trail of nothing = %d", n)
	}
}

// P1.3.
func TestCmp(t *testing.T) {
	long := fill(api.MaxLimbs+1, 1)
	less := slices.Clone(long)
	less[0] = 0
	lists := append(samples(), long, less, under(long, 4), power(maxBits), under(fill(1, 1), api.MaxLimbs))
	for _, a := range lists {
		for _, b := range lists {
			if c := nat.Cmp(a, b); c != number(a).Cmp(number(b)) {
				t.Errorf("Cmp(%x, %x) = %d", number(a), number(b), c)
			}
		}
	}
}

// P1.4.
func TestAdd(t *testing.T) {
	s, e := nat.Add([]uint64{top}, []uint64{1})
	list(t, "Add", s, e, []uint64{0, 1})
	for _, a := range samples() {
		for _, b := range samples() {
			s, e := nat.Add(a, b)
			same(t, "Add", s, e, new(big.Int).Add(number(a), number(b)))
		}
	}
}

// P1.4.
func TestAddLimit(t *testing.T) {
	most := fill(api.MaxLimbs, top)
	s, e := nat.Add(most, nil)
	list(t, "most + 0", s, e, most)
	s, e = nat.Add(under(nil, 5000), under(most, 5000))
	list(t, "0 + most, with high zeros", s, e, most)
	s, e = nat.Add([]uint64{1}, most)
	refused(t, "1 + most", s, e, api.ErrBig)
	s, e = nat.Add(most, most)
	refused(t, "most + most", s, e, api.ErrBig)
	s, e = nat.Add(power(maxBits-1), power(maxBits-1))
	refused(t, "two halves", s, e, api.ErrBig)
	less := slices.Clone(most)
	less[0]--
	s, e = nat.Add(less, []uint64{1})
	list(t, "most - 1 + 1", s, e, most)
	big := power(maxBits)
	s, e = nat.Add(big, nil)
	refused(t, "big + 0", s, e, api.ErrBig)
	s, e = nat.Add(nil, big)
	refused(t, "0 + big", s, e, api.ErrBig)
}

// P1.4.
func TestSum(t *testing.T) {
	s, e := nat.Sum()
	list(t, "Sum of none", s, e, nil)
	s, e = nat.Sum([]uint64{1}, []uint64{2}, []uint64{3})
	list(t, "Sum", s, e, []uint64{6})
	s, e = nat.Sum(nil, []uint64{}, []uint64{0, 0})
	list(t, "Sum of nothings", s, e, nil)
	want := new(big.Int)
	all := samples()
	for n := range all {
		s, e := nat.Sum(all[:n]...)
		same(t, "Sum", s, e, want)
		want.Add(want, number(all[n]))
	}
	slices.Reverse(all)
	s, e = nat.Sum(all...)
	same(t, "Sum, the other way", s, e, want)
	many := make([][]uint64, 3000)
	for i := range many {
		many[i] = []uint64{top, top}
	}
	s, e = nat.Sum(many...)
	same(t, "Sum of many", s, e, new(big.Int).Mul(number(many[0]), big.NewInt(3000)))
}

// P1.4.
func TestSumLimit(t *testing.T) {
	most := fill(api.MaxLimbs, top)
	s, e := nat.Sum(nil, under(most, 1000), []uint64{0})
	list(t, "Sum of most", s, e, most)
	s, e = nat.Sum(most, []uint64{1})
	refused(t, "Sum of most and 1", s, e, api.ErrBig)
	s, e = nat.Sum([]uint64{1}, most, most, most)
	refused(t, "Sum far beyond", s, e, api.ErrBig)
	s, e = nat.Sum(power(maxBits-1), power(maxBits-2), power(maxBits-2))
	refused(t, "Sum of halves", s, e, api.ErrBig)
	s, e = nat.Sum(power(maxBits-2), power(maxBits-2), power(maxBits-2))
	same(t, "Sum of quarters", s, e, new(big.Int).Mul(big.NewInt(3), number(power(maxBits-2))))
	s, e = nat.Sum([]uint64{1}, nil, power(maxBits))
	refused(t, "Sum with a big one", s, e, api.ErrBig)
	s, e = nat.Sum(power(maxBits))
	refused(t, "Sum of a big one", s, e, api.ErrBig)
}

// P1.4.
func TestSub(t *testing.T) {
	s, e := nat.Sub([]uint64{0, 1}, []uint64{1})
	list(t, "Sub", s, e, []uint64{top})
	s, e = nat.Sub([]uint64{1}, []uint64{2, 0})
	refused(t, "1 - 2", s, e, api.ErrBelow)
	for _, a := range samples() {
		for _, b := range samples() {
			s, e := nat.Sub(a, b)
			if number(a).Cmp(number(b)) < 0 {
				refused(t, "Sub", s, e, api.ErrBelow)
			} else {
				same(t, "Sub", s, e, new(big.Int).Sub(number(a), number(b)))
			}
		}
	}
}

// P1.4.
func TestSubLimit(t *testing.T) {
	most := fill(api.MaxLimbs, top)
	s, e := nat.Sub(under(most, 3000), under(most, 1))
	list(t, "most - most", s, e, nil)
	s, e = nat.Sub(power(maxBits-1), []uint64{1})
	same(t, "a borrow through all limbs", s, e, new(big.Int).Sub(number(power(maxBits-1)), big.NewInt(1)))
	s, e = nat.Sub(nil, most)
	refused(t, "0 - most", s, e, api.ErrBelow)
	s, e = nat.Sub(power(maxBits), power(maxBits))
	refused(t, "big - big", s, e, api.ErrBig)
	s, e = nat.Sub(power(maxBits), nil)
	refused(t, "big - 0", s, e, api.ErrBig)
	s, e = nat.Sub(nil, power(maxBits))
	refused(t, "0 - big: ErrBig ahead of ErrBelow", s, e, api.ErrBig)
}
