package point_test

import (
	"math"
	"math/big"
	"strings"
	"testing"

	"abacus/api"
	"abacus/point"
)

// lastPlace: the power of ten of the last digit of a body of the form e or f.
func lastPlace(body string) int {
	row, exp, _ := strings.Cut(body, "e")
	_, behind, _ := strings.Cut(row, ".")
	return number(exp) - len(behind)
}

// holdNear: the body writes a decimal within half a unit of its last place from d; just half of it only if its last digit is even.
func holdNear(t *testing.T, body string, d uint64, place int) {
	t.Helper()
	told, ok := new(big.Rat).SetString(body)
	if !ok {
		t.Fatalf("of %016x: %q is no decimal", d, brief(body))
	}
	unit := power(place)
	away := new(big.Rat).Sub(told, new(big.Rat).SetFloat64(math.Float64frombits(d)))
	away.Abs(away).Mul(away, big.NewRat(2, 1))
	side := away.Cmp(unit)
	units := new(big.Rat).Quo(told, unit)
	if side > 0 || !units.IsInt() || side == 0 && units.Num().Bit(0) == 1 {
		t.Fatalf("of %016x: %q is not the nearest", d, brief(body))
	}
}

// P15.3: e and f, and g with Hash, write the decimal nearest to the exact value.
func TestNearest(t *testing.T) {
	seed := uint64(153)
	for i := range 20000 {
		s := api.Spec{Verb: "efg"[between(&seed, 0, 2)], Flags: api.Hash, Prec: between(&seed, 0, 30)}
		if i%50 == 0 {
			s.Prec = between(&seed, 0, 4096)
		}
		d := drawDouble(&seed)
		if math.IsNaN(math.Float64frombits(d)) || math.IsInf(math.Float64frombits(d), 0) {
			continue
		}
		body, _ := point.Render(s, d)
		holdNear(t, body, d, lastPlace(body))
	}
}

// P15.3: without Hash g writes the same decimal, and no zero at its end.
func TestNothingLost(t *testing.T) {
	seed := uint64(154)
	for range 20000 {
		s := api.Spec{Verb: 'g', Prec: between(&seed, 0, 30)}
		d := drawDouble(&seed)
		if math.IsNaN(math.Float64frombits(d)) || math.IsInf(math.Float64frombits(d), 0) {
			continue
		}
		short, _ := point.Render(s, d)
		s.Flags = api.Hash
		long, _ := point.Render(s, d)
		holdNear(t, short, d, lastPlace(long))
		row, _, _ := strings.Cut(short, "e")
		if strings.HasSuffix(row, ".") || strings.Contains(row, ".") && strings.HasSuffix(row, "0") {
			t.Fatalf("%+v of %016x: %q", s, d, short)
		}
	}
}
