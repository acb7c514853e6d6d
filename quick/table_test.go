package quick_test

import (
	"testing"

	"abacus/api"
	"abacus/quick"
)

// P9.1: the document's examples of Power.
func TestPowerExamples(t *testing.T) {
	for _, c := range []struct {
		q      int
		hi, lo uint64
		exp    int
		e      api.Errno
	}{
		{0, 0x8000000000000000, 0, -127, api.OK}, {1, 0xa000000000000000, 0, -125, api.OK}, {-1, 0xcccccccccccccccc, 0xcccccccccccccccc, -130, api.OK}, {27, 0xcecb8f27f4200f3a, 0, -65, api.OK},
		{-343, 0, 0, 0, api.ErrTable}, {309, 0, 0, 0, api.ErrTable},
	} {
		if hi, lo, exp, e := quick.Power(c.q); hi != c.hi || lo != c.lo || exp != c.exp || e != c.e {
			t.Errorf("Power(%d) = %016x, %016x, %d, %d", c.q, hi, lo, exp, e)
		}
	}
}

// P9.1: every row of the table is the highest 128 bits of its power, and the power itself just from 0 to 55.
func TestPowerRows(t *testing.T) {
	for q := api.MinTable; q <= api.MaxTable; q++ {
		hi, lo, exp, e := quick.Power(q)
		p, up := fives(q)
		if hi < 1<<63 || e != api.OK || exp != up || product(whole(hi), power(2, 64)).Cmp(p.Sub(p, whole(lo))) != 0 {
			t.Errorf("Power(%d) = %016x, %016x, %d, %d", q, hi, lo, exp, e)
		}
		p.Add(p, whole(lo))
		if same := product(p, power(2, exp)).Cmp(power(5, q)) == 0; same != (q >= 0 && q <= 55) {
			t.Errorf("Power(%d) is the power itself: %v", q, same)
		}
	}
}

// P9.1: outside the table nothing is answered.
func TestPowerOutside(t *testing.T) {
	for _, q := range far() {
		if hi, lo, exp, e := quick.Power(q); hi != 0 || lo != 0 || exp != 0 || e != api.ErrTable {
			t.Errorf("Power(%d) = %016x, %016x, %d, %d", q, hi, lo, exp, e)
		}
	}
}
