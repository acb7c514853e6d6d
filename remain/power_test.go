package remain_test

import (
	"math"
	"math/big"
	"testing"

	"abacus/api"
	"abacus/remain"
)

// bitsOf: the double's bits.
func bitsOf(x float64) uint64 { return math.Float64bits(x) }

// P6.4: the document's scalings with either sign, ties among the subnormals, and the ends of n.
func TestScaleExamples(t *testing.T) {
	for _, c := range []struct {
		d    uint64
		n    int
		want uint64
	}{
		{one, 0, one}, {one, 1023, power(1023)}, {one, 1024, api.Inf}, {one, 2000000000, api.Inf}, {one, maxInt, api.Inf}, {one, minInt, 0}, {one, minInt + 1, 0}, {one, maxInt - 1000, api.Inf},
		{one, -1022, normal}, {one, -1074, 1}, {one, -1075, 0}, {one + 1, -1075, 1}, {one - 1, -1074, 1}, {three, -1075, 2}, {three, -1076, 1}, {0x4014000000000000, -1075, 2}, {0x401c000000000000, -1075, 4}, {two - 1, -1023, normal}, {two - 1, -1022, 2*normal - 1}, {one, -5000, 0},
		{1, 1, 2}, {1, -1, 0}, {3, -1, 2}, {1, 52, normal}, {1, 1074, one}, {1, 2097, power(1023)}, {1, 2098, api.Inf}, {1, maxInt, api.Inf}, {1, minInt, 0}, {1<<52 - 1, 1, 2*normal - 2}, {1<<52 - 1, 2046, api.Most - 1}, {1<<52 - 1, 2047, api.Inf},
		{api.Most, 0, api.Most}, {api.Most, 1, api.Inf}, {api.Most, -1, api.Most - normal}, {api.Most, -2098, 1}, {api.Most, -2099, 0}, {api.Most, -2097, 2}, {api.Most, maxInt, api.Inf}, {api.Most, minInt, 0}, {power(1023), -2097, 1}, {power(1023), -2098, 0},
		{normal, -52, 1}, {normal, -53, 0}, {normal + 1, -1, 1 << 51}, {normal + 3, -1, 1<<51 + 2},
		{0, 7, 0}, {0, maxInt, 0}, {0, minInt, 0}, {api.Inf, 0, api.Inf}, {api.Inf, 3, api.Inf}, {api.Inf, minInt, api.Inf}, {api.Inf, maxInt, api.Inf},
	} {
		for _, sign := range []uint64{0, minus} {
			if d := remain.Scale(c.d|sign, c.n); d != c.want|sign {
				t.Errorf("Scale(%016x, %d) = %016x, want %016x", c.d|sign, c.n, d, c.want|sign)
			}
		}
	}
	for _, d := range nans() {
		for _, n := range []int{0, 1, -1, maxInt, minInt} {
			if got := remain.Scale(d, n); got != api.NaN {
				t.Errorf("Scale(%016x, %d) = %016x, want the NaN", d, n, got)
			}
		}
	}
}

// P6.4: the edges and drawn doubles, with n all over and about the ends of the doubles, against exact whole numbers.
func TestScale(t *testing.T) {
	seed := uint64(65)
	list := doubles()
	for range 3000 {
		list = append(list, draw(&seed))
	}
	for _, d := range list {
		if !finite(d) || d&^minus == 0 {
			continue
		}
		mant, exp := parts(d)
		tops := exp + mant.BitLen()
		for _, n := range []int{between(&seed, -2200, 2200), between(&seed, -2200, 2200), 1024 - tops, 1025 - tops, -1074 - tops, -1073 - tops, -1050 - tops, -1022 - tops, -1021 - tops} {
			if got := remain.Scale(d, n); got&minus != d&minus || !isNearest(got&^minus, mant, big.NewInt(1), exp+n) {
				t.Errorf("Scale(%016x, %d) = %016x", d, n, got)
			}
		}
	}
}

// P6.5: the document's powers, and each rule's own.
func TestPowerExamples(t *testing.T) {
	for _, c := range []struct {
		x    uint64
		n    int
		want uint64
	}{
		{two, 10, power(10)}, {two, -2, power(-2)}, {two | minus, 3, 0xc020000000000000}, {two | minus, 2, four}, {two | minus, -3, power(-3) | minus}, {two | minus, -2, power(-2)}, {three, -1, 0x3fd5555555555555}, {three | minus, -1, 0xbfd5555555555555}, {three, 1, three},
		{ten, 22, 0x4480f0cf064dd592}, {ten, 23, 0x44b52d02c7e14af6}, {ten, -1, 0x3fb999999999999a}, {ten, 308, 0x7fe1ccf385ebc8a0}, {ten, 309, api.Inf}, {ten | minus, 309, api.Inf | minus}, {ten | minus, 310, api.Inf}, {ten, -323, 2}, {ten, -324, 0}, {ten | minus, -325, minus}, {ten | minus, -326, 0},
		{two, 1023, power(1023)}, {two, 1024, api.Inf}, {two, -1024, 1 << 50}, {half, 1024, 1 << 50}, {half, -1024, api.Inf}, {half | minus, -1023, power(1023) | minus},
		{one, 1024, one}, {one | minus, 1023, one | minus}, {one | minus, -1024, one}, {one + 1, 2, one + 2}, {one + 1, -1, one - 2}, {one - 1, -1, one + 1},
		{power(-215), 5, 0}, {power(-215) + 1, 5, 1}, {power(-215) | minus, 5, minus}, {power(215), -5, 0}, {power(215) - 1, -5, 1}, {power(215) + 1, -5, 0}, {(power(215) - 1) | minus, -5, 1 | minus}, {power(-537), 2, 1}, {power(-538), 2, 0}, // 2^-1075 is a tie, and nothing is even
		{1, 1, 1}, {1, 2, 0}, {1, -1, api.Inf}, {1, 1024, 0}, {1, -1024, api.Inf}, {1 | minus, 1023, minus}, {1 | minus, -1023, api.Inf | minus}, {1<<50 + 1, -1, api.Inf - 8}, {1 << 51, -1, power(1023)}, {1 << 50, -1, api.Inf},
		{api.Most, 1, api.Most}, {api.Most, 2, api.Inf}, {api.Most, -1, 1 << 50}, {api.Most, -2, 0}, {api.Most, 1024, api.Inf}, {api.Most | minus, -1023, minus},
		{api.Inf, 1, api.Inf}, {api.Inf, 1024, api.Inf}, {api.Inf, -1, 0}, {api.Inf, -1024, 0}, {api.Inf | minus, 1, api.Inf | minus}, {api.Inf | minus, 2, api.Inf}, {api.Inf | minus, -3, minus}, {api.Inf | minus, -2, 0},
		{0, 1, 0}, {0, 2, 0}, {0, -1, api.Inf}, {0, -2, api.Inf}, {minus, 3, minus}, {minus, 2, 0}, {minus, -3, api.Inf | minus}, {minus, -2, api.Inf}, {minus, 1024, 0}, {minus, -1023, api.Inf | minus},
	} {
		if d, e := remain.Power(c.x, c.n); d != c.want || e != api.OK {
			t.Errorf("Power(%016x, %d) = %016x, error %d; want %016x", c.x, c.n, d, e, c.want)
		}
	}
}

// P6.5: n of 0 gives 1 for every x; else a NaN gives the NaN; beyond MaxPower either way ErrPower comes first, whatever x is.
func TestPowerEdges(t *testing.T) {
	for _, x := range append(doubles(), nans()...) {
		if d, e := remain.Power(x, 0); d != one || e != api.OK {
			t.Errorf("Power(%016x, 0) = %016x, error %d; want 1", x, d, e)
		}
		for _, n := range []int{1025, -1025, 1026, 2048, -2048, 1 << 32, -1 << 32, maxInt, minInt, minInt + 1} {
			if d, e := remain.Power(x, n); d != 0 || e != api.ErrPower {
				t.Errorf("Power(%016x, %d) = %016x, error %d; want error %d", x, n, d, e, api.ErrPower)
			}
		}
		for _, n := range []int{1, -1, 2, 1024, -1024} {
			if d, e := remain.Power(x, n); isNaN(x) && (d != api.NaN || e != api.OK) {
				t.Errorf("Power(%016x, %d) = %016x, error %d; want the NaN", x, n, d, e)
			}
		}
	}
}

// checkPower: whether Power answers what the exact power of a finite x, which isn't nothing, rounds to.
func checkPower(t *testing.T, x uint64, n int) {
	t.Helper()
	mant, exp := parts(x)
	size := n
	if n < 0 {
		size = -n
	}
	top, bottom := mant.Exp(mant, big.NewInt(int64(size)), nil), big.NewInt(1)
	if n < 0 {
		top, bottom = bottom, top
	}
	sign := x & minus
	if n&1 == 0 {
		sign = 0
	}
	d, e := remain.Power(x, n)
	if e != api.OK || d&minus != sign || !isNearest(d&^minus, top, bottom, exp*n) {
		t.Errorf("Power(%016x, %d) = %016x, error %d", x, n, d, e)
	}
}

// P6.5: powers of edges and of drawn doubles, most of them such that the answer is finite, against exact whole numbers.
func TestPowers(t *testing.T) {
	seed := uint64(66)
	for _, x := range doubles() {
		if !finite(x) || x&^minus == 0 {
			continue
		}
		for _, n := range []int{1, -1, 2, -2, 3, -3, between(&seed, 4, 1024), between(&seed, -1024, -4)} {
			checkPower(t, x, n)
		}
	}
	for range 1500 {
		n := between(&seed, 1, 1<<between(&seed, 1, 10))
		x := random(&seed)>>12 | uint64(1023+between(&seed, -1074/n, 1023/n))<<52 | random(&seed)&minus
		checkPower(t, x, n)
		checkPower(t, x, -n)
	}
	for range 300 { // so near to 1 that even high powers are finite
		x := one + random(&seed)>>between(&seed, 12, 60) - random(&seed)>>between(&seed, 12, 60)
		checkPower(t, x, between(&seed, 500, 1024))
		checkPower(t, x, between(&seed, -1024, -500))
	}
}

// P6.5: squares just between two doubles: odd numbers of 27 bits whose squares have 54; and among the subnormals.
func TestPowersAtTies(t *testing.T) {
	seed := uint64(67)
	for range 500 {
		odd := uint64(between(&seed, 94906266, 1<<27-1)) | 1 // the first of these is the least whole number above the root of 2^53
		x := bitsOf(float64(odd))
		checkPower(t, x, 2)
		checkPower(t, x+1, 2)
		checkPower(t, x-1, 2)
		small := uint64(between(&seed, 1, 1<<between(&seed, 1, 26))) | 1
		low := bitsOf(math.Ldexp(float64(small), -537-between(&seed, 0, 13)))
		checkPower(t, low, 2)
		checkPower(t, low|minus, 3)
	}
}

// P6.5: Pow is Power for a whole y from -MaxPower to MaxPower, and ErrPower for every other y, whatever x is.
func TestPow(t *testing.T) {
	for n := -1024; n <= 1024; n++ {
		for _, x := range []uint64{three | minus, one + 1, api.Inf, minus, top} {
			want, _ := remain.Power(x, n)
			if d, e := remain.Pow(x, bitsOf(float64(n))); d != want || e != api.OK {
				t.Errorf("Pow(%016x, %d) = %016x, error %d; want %016x", x, n, d, e, want)
			}
		}
	}
	for _, x := range append(doubles(), nans()...) {
		if d, e := remain.Pow(x, minus); d != one || e != api.OK {
			t.Errorf("Pow(%016x, -0) = %016x, error %d; want 1", x, d, e)
		}
		wrong := append(nans(), api.Inf, 1, normal, half, one-1, one+1, 0x3ff8000000000000, bitsOf(1024.5), bitsOf(1025), bitsOf(1024)-1, bitsOf(1024)+1, bitsOf(1023.5), power(31), power(32), power(53), power(62), power(63), power(64), power(64)+2, power(128), api.Most)
		for _, y := range wrong {
			for _, sign := range []uint64{0, minus} {
				if d, e := remain.Pow(x, y^sign); d != 0 || e != api.ErrPower {
					t.Errorf("Pow(%016x, %016x) = %016x, error %d; want error %d", x, y^sign, d, e, api.ErrPower)
				}
			}
		}
	}
}

// P6.5: the document's Pows.
func TestPowExamples(t *testing.T) {
	for _, c := range []struct {
		x, y, want uint64
		e          api.Errno
	}{
		{two, half, 0, api.ErrPower}, {one, api.Inf, 0, api.ErrPower}, {0x4022000000000000, minus, one, api.OK}, {two, bitsOf(1025), 0, api.ErrPower}, {three, two, 0x4022000000000000, api.OK}, {two, bitsOf(-1), half, api.OK}, {two, power(10), api.Inf, api.OK},
	} {
		if d, e := remain.Pow(c.x, c.y); d != c.want || e != c.e {
			t.Errorf("Pow(%016x, %016x) = %016x, error %d; want %016x, error %d", c.x, c.y, d, e, c.want, c.e)
		}
	}
}
