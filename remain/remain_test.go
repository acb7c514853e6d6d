package remain_test

import (
	"math"
	"math/big"
	"testing"

	"abacus/api"
	"abacus/remain"
)

// wholes: what Trunc, Floor, Ceil and Near answer for d must be these.
func wholes(t *testing.T, d, trunc, floor, ceil, near uint64) {
	t.Helper()
	for i, f := range []func(uint64) uint64{remain.Trunc, remain.Floor, remain.Ceil, remain.Near} {
		name, want := [...]string{"Trunc", "Floor", "Ceil", "Near"}[i], [...]uint64{trunc, floor, ceil, near}[i]
		if got := f(d); got != want {
			t.Errorf("%s(%016x) = %016x, want %016x", name, d, got, want)
		}
	}
}

// P6.1: the document's whole parts, with either sign, and the ends of what has a part behind the point.
func TestWholeExamples(t *testing.T) {
	for _, c := range [][4]uint64{ // d; cut, the next one farther from nothing, the nearest
		{0x4004000000000000, two, three, two},
		{0x400c000000000000, three, four, four},
		{0x4002000000000000, two, three, two},
		{0x3fd0000000000000, 0, one, 0},
		{half - 1, 0, one, 0}, {half, 0, one, 0}, {half + 1, 0, one, one}, {0x3fe8000000000000, 0, one, one}, {one - 1, 0, one, one},
		{one, one, one, one}, {one + 1, one, two, one}, {0x3ff8000000000000 - 1, one, two, one}, {0x3ff8000000000000, one, two, two}, {0x3ff8000000000000 + 1, one, two, two}, {two - 1, one, two, two},
		{0x4004000000000000 - 1, two, three, two}, {0x4004000000000000 + 1, two, three, three},
		{0, 0, 0, 0}, {1, 0, one, 0}, {1<<52 - 1, 0, one, 0}, {normal, 0, one, 0}, {power(-64), 0, one, 0}, {power(-63) + 1, 0, one, 0}, {power(-53), 0, one, 0}, {power(-2), 0, one, 0},
		{power(51) + 1, power(51), power(51) + 2, power(51)}, {power(51) + 3, power(51) + 2, power(51) + 4, power(51) + 4},
		{power(52) - 1, power(52) - 2, power(52), power(52)}, {power(52), power(52), power(52), power(52)}, {power(52) + 1, power(52) + 1, power(52) + 1, power(52) + 1},
		{power(53) - 1, power(53) - 1, power(53) - 1, power(53) - 1}, {power(64) - 1, power(64) - 1, power(64) - 1, power(64) - 1}, {api.Most, api.Most, api.Most, api.Most}, {api.Inf, api.Inf, api.Inf, api.Inf},
	} {
		d, cut, next, near := c[0], c[1], c[2], c[3]
		wholes(t, d, cut, cut, next, near)
		wholes(t, d|minus, cut|minus, next|minus, cut|minus, near|minus)
	}
	for _, d := range nans() {
		wholes(t, d, api.NaN, api.NaN, api.NaN, api.NaN)
	}
}

// checkWholes: whether the four are what they mean, by exact whole numbers.
func checkWholes(t *testing.T, d uint64) {
	t.Helper()
	unit := new(big.Int).Lsh(big.NewInt(1), 1074)
	floor, rest := new(big.Int).DivMod(signed(d), unit, new(big.Int))
	ceil := new(big.Int).Set(floor)
	if rest.Sign() > 0 {
		ceil.Add(ceil, big.NewInt(1))
	}
	trunc, near := floor, floor
	if d&minus != 0 {
		trunc = ceil
	}
	if c := rest.Lsh(rest, 1).Cmp(unit); c > 0 || c == 0 && floor.Bit(0) == 1 {
		near = ceil
	}
	for i, want := range []*big.Int{trunc, floor, ceil, near} {
		got := []func(uint64) uint64{remain.Trunc, remain.Floor, remain.Ceil, remain.Near}[i](d)
		if !is(got, new(big.Int).Mul(want, unit), d) {
			t.Errorf("rounding %d of %016x = %016x", i, d, got)
		}
	}
}

// P6.1: edges and drawn doubles, against exact whole numbers and against the host's roundings.
func TestWholes(t *testing.T) {
	seed := uint64(61)
	list := doubles()
	for range 8000 {
		list = append(list, draw(&seed))
	}
	for range 4000 { // halves and their neighbours
		d := math.Float64bits(float64(random(&seed)>>between(&seed, 13, 63)) + 0.5)
		list = append(list, d-1, d, d+1, (d-1)|minus, d|minus, (d+1)|minus)
	}
	for _, d := range list {
		if isNaN(d) {
			wholes(t, d, api.NaN, api.NaN, api.NaN, api.NaN)
			continue
		}
		x := math.Float64frombits(d)
		wholes(t, d, math.Float64bits(math.Trunc(x)), math.Float64bits(math.Floor(x)), math.Float64bits(math.Ceil(x)), math.Float64bits(math.RoundToEven(x)))
		if finite(d) {
			checkWholes(t, d)
		}
	}
}

// P6.1: the document's Splits; the rest of a whole number and of an infinity is a zero with its sign.
func TestSplitExamples(t *testing.T) {
	for _, c := range [][3]uint64{
		{0x4004000000000000, two, half}, {three, three, 0}, {half, 0, half}, {0, 0, 0}, {one, one, 0}, {one - 1, 0, one - 1}, {one + 1, one, power(-52)}, {1, 0, 1}, {normal, 0, normal},
		{power(52) - 1, power(52) - 2, half}, {power(52), power(52), 0}, {power(51) + 1, power(51), half}, {api.Most, api.Most, 0}, {api.Inf, api.Inf, 0},
	} {
		for _, sign := range []uint64{0, minus} {
			if w, r := remain.Split(c[0] | sign); w != c[1]|sign || r != c[2]|sign {
				t.Errorf("Split(%016x) = %016x, %016x; want %016x, %016x", c[0]|sign, w, r, c[1]|sign, c[2]|sign)
			}
		}
	}
	for _, d := range nans() {
		if w, r := remain.Split(d); w != api.NaN || r != api.NaN {
			t.Errorf("Split(%016x) = %016x, %016x; want the NaN twice", d, w, r)
		}
	}
}

// P6.1: the two parts of Split, both with d's sign, are d, and the first is Trunc's.
func TestSplit(t *testing.T) {
	seed := uint64(62)
	list := doubles()
	for range 8000 {
		list = append(list, draw(&seed))
	}
	for _, d := range list {
		if !finite(d) {
			continue
		}
		w, r := remain.Split(d)
		if w != remain.Trunc(d) {
			t.Errorf("Split(%016x) = %016x, %016x; Trunc answers %016x", d, w, r, remain.Trunc(d))
		}
		if !is(r, new(big.Int).Sub(signed(d), signed(w)), d) {
			t.Errorf("Split(%016x) = %016x, %016x", d, w, r)
		}
	}
}
