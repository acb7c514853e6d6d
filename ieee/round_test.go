package ieee_test

import (
	"fmt"
	"math/big"
	"testing"

	"abacus/api"
	"abacus/ieee"
)

var one = big.NewInt(1)

// tryRound: Round of n * 2^exp, of either sign, with more and without, must be the nearest.
func tryRound(t *testing.T, n []uint64, exp int) {
	t.Helper()
	for _, neg := range []bool{false, true} {
		for _, more := range []bool{false, true} {
			d, e := ieee.Round(neg, n, exp, more)
			if !isNearest(d, neg, number(n), one, exp, more) || e != api.OK {
				t.Errorf("Round(%v, %x, %d, %v) = %016x, error %d", neg, brief(n), exp, more, d, e)
			}
		}
	}
}

// tryRatio: RoundRatio of n / d * 2^exp, of either sign, must be the nearest.
func tryRatio(t *testing.T, n []uint64, d []uint64, exp int) {
	t.Helper()
	for _, neg := range []bool{false, true} {
		x, e := ieee.RoundRatio(neg, n, d, exp)
		if !isNearest(x, neg, number(n), number(d), exp, false) || e != api.OK {
			t.Errorf("RoundRatio(%v, %x, %x, %d) = %016x, error %d", neg, brief(n), brief(d), exp, x, e)
		}
	}
}

// wantRound: Round must answer want, with either sign.
func wantRound(t *testing.T, n []uint64, exp int, more bool, want uint64) {
	t.Helper()
	for neg, sign := range map[bool]uint64{false: 0, true: minus} {
		d, e := ieee.Round(neg, n, exp, more)
		bits(t, fmt.Sprintf("Round(%v, %x, %d, %v)", neg, brief(n), exp, more), d, e, want|sign)
	}
}

// wantRatio: RoundRatio must answer want, with either sign.
func wantRatio(t *testing.T, n []uint64, d []uint64, exp int, want uint64) {
	t.Helper()
	for neg, sign := range map[bool]uint64{false: 0, true: minus} {
		x, e := ieee.RoundRatio(neg, n, d, exp)
		bits(t, fmt.Sprintf("RoundRatio(%v, %x, %x, %d)", neg, brief(n), brief(d), exp), x, e, want|sign)
	}
}

// times: n * m.
func times(n []uint64, m *big.Int) []uint64 {
	return limbs(new(big.Int).Mul(number(n), m))
}

// plus: n + i.
func plus(n []uint64, i int64) []uint64 {
	return limbs(new(big.Int).Add(number(n), big.NewInt(i)))
}

// P4.9: the chapter's examples and the edges that it names.
func TestRoundEdges(t *testing.T) {
	for _, c := range []struct {
		n    []uint64
		exp  int
		more bool
		want uint64
	}{
		{[]uint64{1}, 0, false, api.One}, {[]uint64{3, 0, 0}, -1, true, 0x3ff8000000000000},
		{[]uint64{1}, -1074, false, 1}, {[]uint64{1}, -1075, false, 0}, {[]uint64{1}, -1075, true, 1}, {[]uint64{1}, -1076, false, 0}, {[]uint64{1}, -1076, true, 0},
		{[]uint64{3}, -1076, false, 1}, {[]uint64{3}, -1075, false, 2}, {[]uint64{3}, -1075, true, 2}, {[]uint64{5}, -1075, false, 2}, {[]uint64{5}, -1075, true, 3}, {[]uint64{1<<62 + 1}, -1075 - 62, false, 1},
		{[]uint64{1<<53 - 1}, -1075, false, 1 << 52}, {[]uint64{1<<53 - 3}, -1075, false, 1<<52 - 2}, {[]uint64{1<<53 - 3}, -1075, true, 1<<52 - 1},
		{[]uint64{1<<53 + 1}, 0, false, 0x4340000000000000}, {[]uint64{1<<53 + 1}, 0, true, 0x4340000000000001}, {[]uint64{1<<53 + 3, 0, 0}, 0, false, 0x4340000000000002}, {[]uint64{1<<54 - 1}, 0, false, 0x4350000000000000},
		{[]uint64{1}, 1023, true, 0x7fe0000000000000}, {[]uint64{1}, 1024, false, api.Inf}, {[]uint64{1<<53 - 1}, 971, true, api.Most}, {[]uint64{1<<54 - 1}, 970, false, api.Inf}, {[]uint64{1<<54 - 1}, 970, true, api.Inf},
		{[]uint64{1<<55 - 3}, 969, false, api.Most}, {[]uint64{1<<55 - 3}, 969, true, api.Most}, {[]uint64{1<<55 - 1}, 969, false, api.Inf},
		{[]uint64{0, 1}, -1138, false, 1}, {[]uint64{0, 1}, -1139, false, 0}, {[]uint64{0, 1}, -1139, true, 1},
		{[]uint64{0, 0, 1}, -128, false, api.One}, {[]uint64{1}, 62, false, 0x43d0000000000000},
	} {
		wantRound(t, c.n, c.exp, c.more, c.want)
	}
}

// P4.9: nothing is zero with its sign, whatever the exponent and more are.
func TestRoundZero(t *testing.T) {
	for _, n := range zeros() {
		for _, exp := range []int{0, 1, -1, -1074, -1075, 1024, 1 << 40, -1 << 40, maxInt, minInt} {
			wantRound(t, n, exp, false, 0)
			wantRound(t, n, exp, true, 0)
		}
	}
}

// P4.9: exponents of any size, those that would wrap round too; the longest natural pulled back into the doubles.
func TestRoundFarExponents(t *testing.T) {
	full := fill(api.MaxLimbs, top)
	for _, more := range []bool{false, true} {
		for _, exp := range []int{1 << 20, 1 << 31, 1 << 32, 1 << 62, maxInt - 1100, maxInt - 53, maxInt - 1, maxInt} {
			for _, n := range [][]uint64{{1}, {top}, {0, 0, 1}, full} {
				wantRound(t, n, exp, more, api.Inf)
			}
		}
		for _, exp := range []int{-1 << 20, -1 << 31, -1 << 32, -1 << 62, minInt + maxBits + 1, minInt + 1100, minInt + 53, minInt + 1, minInt} {
			for _, n := range [][]uint64{{1}, {top}, {0, 0, 1}, full} {
				wantRound(t, n, exp, more, 0)
			}
		}
		wantRound(t, full, -maxBits, more, api.One)
		wantRound(t, full, 0, more, api.Inf)
		wantRound(t, two(maxBits-1), 1-maxBits, more, api.One)
		wantRound(t, two(maxBits-1), 1024-maxBits, more, 0x7fe0000000000000)
		wantRound(t, two(maxBits-1), 1025-maxBits, more, api.Inf)
		wantRound(t, two(maxBits-1), -maxBits-1073, more, 1)
	}
	wantRound(t, two(maxBits-1), -maxBits-1074, false, 0)
	wantRound(t, two(maxBits-1), -maxBits-1074, true, 1)
	wantRound(t, plus(two(maxBits-1), 1), -maxBits-1074, false, 1)
	wantRound(t, two(maxBits-1), -maxBits-1075, true, 0)
}

// P4.9: every double rounds to itself, and the middles between doubles, and what is a trifle beside them, to the nearest; in every spelling of the number.
func TestRoundAroundMiddles(t *testing.T) {
	for _, d := range positives() {
		exact, half := units(d), middle(d)
		for _, shift := range []uint{0, 1, 7, 64, 200} {
			spelled := limbs(new(big.Int).Lsh(exact, shift))
			wantRound(t, spelled, -1074-int(shift), false, d)
			wantRound(t, spelled, -1074-int(shift), true, d)
			at := limbs(new(big.Int).Lsh(half, shift))
			for by := int64(-1); by <= 1; by++ {
				tryRound(t, plus(at, by), -1075-int(shift))
			}
			wantRound(t, at, -1075-int(shift), false, d+d&1)
			wantRound(t, at, -1075-int(shift), true, d+1)
		}
	}
}

// P4.9: numbers of many lengths and exponents, held against the middles of the doubles.
func TestRoundAtRandom(t *testing.T) {
	seed := uint64(49)
	for range 2000 {
		n := random(&seed, between(&seed, 1, 6))
		n[len(n)-1] >>= between(&seed, 0, 63)
		if between(&seed, 0, 1) == 1 { // zeros below, so that middles are met
			n[0] &^= 1<<between(&seed, 0, 63) - 1
		}
		size := number(n).BitLen()
		tryRound(t, n, between(&seed, -1080, 1030)-size)
		tryRound(t, n, between(&seed, -1080, -1020)-size)
	}
	for _, n := range [][]uint64{random(&seed, api.MaxLimbs), under(random(&seed, 1000), 3*api.MaxLimbs)} {
		size := number(n).BitLen()
		for _, place := range []int{0, 1, -1022, -1070, -1074, -1075, 1024, 1025} {
			tryRound(t, n, place-size)
		}
	}
}

// P4.9: a natural that is too big is refused, whatever else is handed in; high zero limbs don't count.
func TestRoundTooBig(t *testing.T) {
	for _, n := range [][]uint64{two(maxBits), under(two(maxBits), 5), fill(api.MaxLimbs+1, top), fill(2*api.MaxLimbs, 1)} {
		for _, exp := range []int{0, -maxBits, maxInt, minInt} {
			for _, neg := range []bool{false, true} {
				d, e := ieee.Round(neg, n, exp, neg)
				noBits(t, "Round", d, e, api.ErrBig)
			}
		}
	}
	wantRound(t, under(fill(api.MaxLimbs, top), 9), -maxBits, false, api.One)
}

// P4.10: the chapter's examples and the edges of the rounding.
func TestRatioEdges(t *testing.T) {
	for _, c := range []struct {
		n, d []uint64
		exp  int
		want uint64
	}{
		{[]uint64{1}, []uint64{3}, 0, 0x3fd5555555555555}, {[]uint64{1}, []uint64{10}, 0, 0x3fb999999999999a}, {[]uint64{2}, []uint64{3}, 0, 0x3fe5555555555555}, {[]uint64{6, 0}, []uint64{2, 0, 0}, 0, 0x4008000000000000},
		{[]uint64{3}, []uint64{4}, -1074, 1}, {[]uint64{1}, []uint64{2}, -1074, 0}, {[]uint64{3}, []uint64{2}, -1074, 2}, {[]uint64{1}, []uint64{3}, -1074, 0}, {[]uint64{2}, []uint64{3}, -1074, 1}, {[]uint64{1 << 63}, []uint64{top}, -1074, 1}, {[]uint64{1<<63 - 1}, []uint64{top}, -1074, 0},
		{[]uint64{3 * (1<<54 - 1)}, []uint64{3}, 970, api.Inf}, {[]uint64{3*(1<<54-1) - 1}, []uint64{3}, 970, api.Most}, {[]uint64{1}, []uint64{3}, 1025, 0x7fe5555555555555}, {[]uint64{1}, []uint64{3}, 1026, api.Inf},
		{[]uint64{5 * (1<<53 + 1)}, []uint64{5}, 0, 0x4340000000000000}, {[]uint64{5*(1<<53+1) + 1}, []uint64{5}, 0, 0x4340000000000001}, {[]uint64{5*(1<<53+1) - 1}, []uint64{5}, 0, 0x4340000000000000},
		{[]uint64{top}, []uint64{1}, 0, 0x43f0000000000000}, {[]uint64{1}, []uint64{top}, 0, 0x3bf0000000000000}, {[]uint64{0, 1}, []uint64{1}, 0, 0x43f0000000000000},
	} {
		wantRatio(t, c.n, c.d, c.exp, c.want)
	}
}

// P4.10: nothing is zero with its sign; exponents of any size.
func TestRatioFarExponents(t *testing.T) {
	full := fill(api.MaxLimbs, top)
	list := [][]uint64{{1}, {3}, {top, top}, full}
	for _, d := range list {
		for _, n := range zeros() {
			for _, exp := range []int{0, 5, maxInt, minInt} {
				wantRatio(t, n, d, exp, 0)
			}
		}
		for _, n := range list {
			for _, far := range []int{1 << 20, 1 << 31, 1 << 62, maxInt - maxBits, maxInt - 64, maxInt} {
				wantRatio(t, n, d, far, api.Inf)
				wantRatio(t, n, d, -far, 0)
			}
			wantRatio(t, n, d, minInt, 0)
		}
	}
	wantRatio(t, []uint64{1}, two(maxBits-1), maxBits-1, api.One)
	wantRatio(t, two(maxBits-1), []uint64{1}, 1-maxBits, api.One)
}

// P4.10: exact middles between doubles, and what is a trifle beside them, over divisors of many lengths.
func TestRatioAroundMiddles(t *testing.T) {
	seed := uint64(410)
	for i, d := range positives() {
		by := random(&seed, 1+i%5)
		by[len(by)-1] |= 1
		at := times(by, middle(d))
		wantRatio(t, at, by, -1075, d+d&1)
		wantRatio(t, plus(at, 1), by, -1075, d+1)
		tryRatio(t, plus(at, -1), by, -1075)
		if d > 0 {
			wantRatio(t, times(by, units(d)), by, -1074, d)
		}
	}
}

// P4.10: fractions of many lengths and exponents, held against the middles of the doubles.
func TestRatioAtRandom(t *testing.T) {
	seed := uint64(411)
	for range 2000 {
		n, d := random(&seed, between(&seed, 1, 7)), random(&seed, between(&seed, 1, 7))
		n[len(n)-1] >>= between(&seed, 0, 63)
		d[len(d)-1] = d[len(d)-1]>>between(&seed, 0, 63) | 1
		place := number(d).BitLen() - number(n).BitLen()
		tryRatio(t, n, d, place+between(&seed, -1080, 1030))
		tryRatio(t, n, d, place+between(&seed, -1080, -1020))
	}
}

// P4.10: divisors up to the greatest length, where there is no room above them, and dividends of every length.
func TestRatioLongDivisors(t *testing.T) {
	seed := uint64(412)
	for _, size := range []int{maxBits - 130, maxBits - 129, maxBits - 128, maxBits - 127, maxBits - 65, maxBits - 64, maxBits - 63, maxBits - 62, maxBits - 1, maxBits} {
		d := random(&seed, api.MaxLimbs)
		d[len(d)-1] |= 1 << 63
		d = limbs(new(big.Int).Rsh(number(d), uint(maxBits-size)))
		for _, length := range []int{1, 2, 100, api.MaxLimbs - 2, api.MaxLimbs - 1, api.MaxLimbs} {
			n := random(&seed, length)
			n[length-1] |= 1
			place := size - number(n).BitLen()
			for _, exp := range []int{0, -1022, -1060, -1075, 1023} {
				tryRatio(t, n, d, place+exp)
			}
		}
		wantRatio(t, d, d, 0, api.One)
		wantRatio(t, []uint64{1}, two(size-1), size-1, api.One)
	}
}

// P4.10: the same where the quotient lies on a middle, or so close below or above it that only the divisor's lowest limb tells.
func TestRatioLongMiddles(t *testing.T) {
	seed := uint64(413)
	for _, odd := range []uint64{1<<53 + 1, 1<<53 + 3, 1<<54 - 1, 1<<53 + 0xabcdef} {
		m := new(big.Int).SetUint64(odd)
		down := new(big.Int).SetUint64(odd - 1)
		up := new(big.Int).SetUint64(odd + 1)
		// The divisor is high * 2^64 + low, the dividend times 2^64 is high * 2^64 * odd * 2^10 and something.
		high := random(&seed, api.MaxLimbs-1)
		high[0] |= 1
		high[len(high)-1] |= 1 << 63
		at := times(high, new(big.Int).Lsh(m, 10))
		for _, low := range []uint64{0, 1, 1 << 63, top} {
			d := append([]uint64{low}, high...)
			for by := int64(-2); by <= 2; by++ {
				tryRatio(t, plus(at, by), d, 64-10)
			}
			beyond := new(big.Int).Mul(new(big.Int).Lsh(m, 10), new(big.Int).SetUint64(low))
			beyond.Rsh(beyond, 64)
			for by := int64(-2); by <= 2; by++ {
				tryRatio(t, plus(limbs(new(big.Int).Add(number(at), beyond)), by), d, 64-10)
			}
		}
		d := append([]uint64{1}, high...)
		wantRatio(t, at, d, 54, nearestTo(down)) // below the middle by a trifle
		wantRatio(t, plus(at, 1), d, 54, nearestTo(up))
		wantRatio(t, times(high, new(big.Int).SetUint64(odd<<10+1)), d, 54, nearestTo(up)) // above it by nearly the quotient's unit
		even := nearestTo(down)
		if even&1 == 1 {
			even = nearestTo(up)
		}
		wantRatio(t, at, append([]uint64{0}, high...), 54, even)
		half := append([]uint64{1 << 63}, high...)
		wantRatio(t, limbs(new(big.Int).Add(number(at), new(big.Int).Lsh(m, 9))), half, 54, even)
	}
}

// nearestTo: the double of a whole number that is one.
func nearestTo(n *big.Int) uint64 { return ieee.FromUint(n.Uint64()) }

// P4.10 and the order of errors: a natural that is too big ahead of a division by nothing.
func TestRatioRefuses(t *testing.T) {
	big := two(maxBits)
	for _, none := range zeros() {
		for _, exp := range []int{0, maxInt, minInt} {
			for _, n := range [][]uint64{nil, {0}, {1}, fill(api.MaxLimbs, top)} {
				d, e := ieee.RoundRatio(true, n, none, exp)
				noBits(t, "RoundRatio by nothing", d, e, api.ErrZero)
			}
			d, e := ieee.RoundRatio(true, big, none, exp)
			noBits(t, "RoundRatio of a big one by nothing", d, e, api.ErrBig)
			d, e = ieee.RoundRatio(true, none, under(big, 3), exp)
			noBits(t, "RoundRatio of nothing by a big one", d, e, api.ErrBig)
		}
	}
	d, e := ieee.RoundRatio(false, big, big, 0)
	noBits(t, "RoundRatio of big ones", d, e, api.ErrBig)
	d, e = ieee.RoundRatio(false, []uint64{1}, big, 0)
	noBits(t, "RoundRatio by a big one", d, e, api.ErrBig)
	d, e = ieee.RoundRatio(false, fill(api.MaxLimbs+1, 1), []uint64{1}, 0)
	noBits(t, "RoundRatio of a big one", d, e, api.ErrBig)
	wantRatio(t, under(fill(api.MaxLimbs, 7), 3), under(fill(api.MaxLimbs, 7), 2), 0, api.One)
}
