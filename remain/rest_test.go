package remain_test

import (
	"math/big"
	"testing"

	"abacus/api"
	"abacus/remain"
)

// rests: what Fmod and Remainder answer for a and b must be these.
func rests(t *testing.T, a, b, mod, rem uint64) {
	t.Helper()
	if d := remain.Fmod(a, b); d != mod {
		t.Errorf("Fmod(%016x, %016x) = %016x, want %016x", a, b, d, mod)
	}
	if d := remain.Remainder(a, b); d != rem {
		t.Errorf("Remainder(%016x, %016x) = %016x, want %016x", a, b, d, rem)
	}
}

// P6.2, P6.3: the document's remainders, with all signs: b's changes nothing, a's turns the answer's.
func TestRestExamples(t *testing.T) {
	five, seven, odd := uint64(0x4014000000000000), uint64(0x401c000000000000), uint64(0x4016000000000000) // odd is 5.5
	for _, c := range [][4]uint64{
		{odd, two, 0x3ff8000000000000, half | minus}, {five, two, one, one}, {seven, two, one, one | minus}, {four, two, 0, 0}, {three, two, one, one | minus}, {one, two, one, one}, {three, four, three, one | minus}, {two, four, two, two},
		{two + 1, four, two + 1, (two - 2) | minus}, {two - 1, four, two - 1, two - 1}, {one, one, 0, 0}, {0, three, 0, 0}, {0, 1, 0, 0}, {half, one, half, half}, {0x3ff8000000000000, one, half, half | minus}, {0x4004000000000000, one, half, half},
		{5, 3, 2, 1 | minus}, {5, 2, 1, 1}, {7, 2, 1, 1 | minus}, {1, 2, 1, 1}, {1, 3, 1, 1}, {2, 3, 2, 1 | minus}, {1, normal, 1, 1}, {normal, 3, 1, 1}, {1, api.Most, 1, 1}, {api.Most, 1, 0, 0}, {api.Most, power(971), 0, 0}, {api.Most, power(972), power(971), power(971) | minus},
		{api.Most, 3, 2, 1 | minus}, {power(1023), 3, 2, 1 | minus}, {power(1023), api.Most, power(1023), (power(1023) - 2) | minus}, {api.Most - 1, api.Most, api.Most - 1, power(971) | minus}, {power(53) + 1, three, one, one}, {power(54) + 1, three, two, one | minus},
		{three, api.Inf, three, three}, {0, api.Inf, 0, 0}, {1, api.Inf, 1, 1}, {api.Most, api.Inf, api.Most, api.Most},
	} {
		for s := range uint64(4) {
			sign := s << 63
			rests(t, c[0]|sign, c[1]|s>>1<<63, c[2]^sign, c[3]^sign)
		}
	}
}

// P6.2, P6.3: NaNs, an infinite a and a b that is nothing give the NaN, whatever the other is.
func TestRestNaNs(t *testing.T) {
	for _, x := range doubles() {
		for _, n := range nans() {
			rests(t, n, x, api.NaN, api.NaN)
			rests(t, x, n, api.NaN, api.NaN)
		}
		for _, sign := range []uint64{0, minus} {
			rests(t, api.Inf|sign, x, api.NaN, api.NaN)
			rests(t, x, sign, api.NaN, api.NaN)
			if finite(x) {
				rests(t, x, api.Inf|sign, x, x)
			}
		}
	}
}

// checkRests: whether Fmod and Remainder answer what is exactly left of a, of two finite doubles.
func checkRests(t *testing.T, a, b uint64) {
	t.Helper()
	if !finite(a) || !finite(b) || b&^minus == 0 {
		return
	}
	size := units(b)
	times, rest := new(big.Int).QuoRem(units(a), size, new(big.Int))
	other := new(big.Int).Set(rest)
	if c := new(big.Int).Lsh(rest, 1).Cmp(size); c > 0 || c == 0 && times.Bit(0) == 1 {
		other.Sub(rest, size)
	}
	if a&minus != 0 {
		rest.Neg(rest)
		other.Neg(other)
	}
	if d := remain.Fmod(a, b); !is(d, rest, a) {
		t.Errorf("Fmod(%016x, %016x) = %016x", a, b, d)
	}
	if d := remain.Remainder(a, b); !is(d, other, a) {
		t.Errorf("Remainder(%016x, %016x) = %016x", a, b, d)
	}
}

// P6.2, P6.3: the edges with one another, and drawn pairs, against exact whole numbers.
func TestRests(t *testing.T) {
	for _, a := range doubles() {
		for _, b := range doubles() {
			checkRests(t, a, b)
		}
	}
	seed := uint64(63)
	for range 8000 {
		a := draw(&seed)
		checkRests(t, a, draw(&seed))
		checkRests(t, a, a^random(&seed)>>between(&seed, 8, 63)) // not far from one another
	}
}

// P6.3: a that is some halves of b, and its neighbours: where the nearest whole number changes.
func TestRestsAtHalves(t *testing.T) {
	seed := uint64(64)
	for range 4000 {
		b := random(&seed) >> between(&seed, 16, 60)
		halves := random(&seed) % 32
		exp := between(&seed, 2, 1000)
		a := smallDouble(b*halves, exp-1) // b has 48 bits at most, so that the product has 53
		divisor := smallDouble(b, exp)
		checkRests(t, a, divisor)
		checkRests(t, a+1, divisor)
		if a > 0 {
			checkRests(t, (a-1)|minus, divisor)
		}
	}
}

// smallDouble: n * 2^(exp - 1074), for an n of at most 53 bits and an exp from 1 on.
func smallDouble(n uint64, exp int) uint64 {
	d, _ := new(big.Float).SetMantExp(new(big.Float).SetUint64(n), exp-1074).Float64()
	return bitsOf(d)
}
