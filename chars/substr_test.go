package chars_test

import (
	"math"
	"math/big"
	"testing"

	"abacus/api"
	"abacus/chars"
)

// P20.2: the chapter's examples of Substr, and its edges.
func TestSubstr(t *testing.T) {
	inf, nan := math.Inf(1), math.NaN()
	for _, c := range []struct {
		m, n float64
		want string
	}{
		{2, 3, "ell"}, {0, 2, "h"}, {-1, 3, "h"}, {1.5, 1, "e"}, {2.5, 1, "e"}, {2, 0.5, ""}, {1, inf, "hello"}, {9, 1, ""}, {2, -1, ""},
		{-inf, inf, ""}, {inf, -inf, ""}, {inf, inf, ""}, {-inf, -inf, ""}, {-inf, 5, ""}, {5, -inf, ""}, {inf, 5, ""}, {-5, inf, "hello"}, {6, inf, ""}, {5, inf, "o"},
		{nan, 1, ""}, {1, nan, ""}, {nan, nan, ""}, {nan, inf, ""}, {inf, nan, ""}, {-1e21, 1e21, ""}, {-1e300, 1e300, ""}, {-1e300, 1e301, "hello"}, {1e300, 1e300, ""},
		{math.MaxFloat64, math.MaxFloat64, ""}, {-math.MaxFloat64, math.MaxFloat64, ""}, {1, math.MaxFloat64, "hello"}, {-math.MaxFloat64, -math.MaxFloat64, ""},
		{1, 0, ""}, {1, 1, "h"}, {1, 4, "hell"}, {1, 5, "hello"}, {1, 6, "hello"}, {5, 1, "o"}, {6, 1, ""}, {0, 1, ""}, {0, 6, "hello"}, {0, 5, "hell"}, {-3, 4, ""}, {-3, 5, "h"},
		{0.5, 1, ""}, {0.5, 1.5, "h"}, {1.5, 1.5, "el"}, {3.5, 0.51, "l"}, {5.5, 1, ""}, {4.5, 1, "l"}, {1, 2.5, "he"}, {1, 3.5, "hell"}, {math.Copysign(0, -1), 2, "h"}, {-0.5, 2, "h"}, {1, math.Copysign(0, -1), ""},
	} {
		holdSubstr(t, "hello", bits(c.m), bits(c.n), c.want)
		holdSubstr(t, "", bits(c.m), bits(c.n), "")
	}
}

// P20.2: the chapter's examples of From, and its edges.
func TestFrom(t *testing.T) {
	inf := math.Inf(1)
	for _, c := range []struct {
		m    float64
		want string
	}{
		{4, "lo"}, {-3, "hello"}, {-inf, "hello"}, {inf, ""}, {0.5, "hello"}, {math.NaN(), ""}, {1, "hello"}, {1.5, "ello"}, {2, "ello"}, {2.5, "ello"}, {2.51, "llo"},
		{5, "o"}, {5.5, ""}, {4.5, "lo"}, {5.49, "o"}, {6, ""}, {7, ""}, {0, "hello"}, {math.Copysign(0, -1), "hello"}, {1e300, ""}, {-1e300, "hello"}, {1 << 53, ""}, {1 << 63, ""}, {1<<64 + 2, ""}, {1 << 32, ""}, {1<<32 + 2, ""},
	} {
		holdFrom(t, "hello", bits(c.m), c.want)
		holdFrom(t, "", bits(c.m), "")
	}
}

// P20.2: every NaN is one, whatever its bits and its sign.
func TestEveryNaN(t *testing.T) {
	for _, d := range []uint64{api.Inf + 1, api.NaN, api.NaN + 1, minus - 1} {
		for _, nan := range []uint64{d, d | minus} {
			holdFrom(t, "hello", nan, "")
			for _, other := range []uint64{0, api.One, bits(3), api.Inf, api.Inf | minus, nan} {
				holdSubstr(t, "hello", nan, other, "")
				holdSubstr(t, "hello", other, nan, "")
			}
		}
	}
}

// whole: the whole number nearest to a finite double, exactly.
func whole(x float64) *big.Int {
	i, _ := big.NewFloat(math.RoundToEven(x)).Int(nil)
	return i
}

// asked: whether a place is at least x and below x + y, told by whole numbers without an end.
func asked(place int, m float64, n float64) bool {
	if math.IsNaN(m) || math.IsNaN(n) || math.IsInf(m, 0) {
		// No place is at least inf, and none is below the sum of -inf and whatever it is added to.
		return false
	}
	if math.IsInf(n, -1) {
		return false
	}
	p, x := big.NewInt(int64(place)), whole(m)
	if p.Cmp(x) < 0 {
		return false
	}
	return math.IsInf(n, 1) || p.Cmp(x.Add(x, whole(n))) < 0
}

// holdPlaces: Substr and From must answer just the bytes whose places are asked for.
func holdPlaces(t *testing.T, s string, m float64, n float64) {
	t.Helper()
	want, from := "", ""
	for i := range len(s) {
		if asked(i+1, m, n) {
			want += s[i : i+1]
		}
		if !math.IsNaN(m) && float64(i+1) >= math.RoundToEven(m) {
			from += s[i : i+1]
		}
	}
	holdSubstr(t, s, bits(m), bits(n), want)
	holdFrom(t, s, bits(m), from)
}

// P20.2: all pairs of the halves and of the numbers next to them around the ends of a text.
func TestSubstrNearTheEnds(t *testing.T) {
	var list []float64
	for half := -12; half <= 12; half++ {
		x := float64(half) / 2
		list = append(list, x, math.Nextafter(x, -9), math.Nextafter(x, 9))
	}
	for _, s := range []string{"", "a", "ab", "abc"} {
		for _, m := range list {
			for _, n := range list {
				holdPlaces(t, s, m, n)
			}
		}
	}
}

// P20.2: numbers whose sum is far smaller than they are, or lies just beside a place: the sum is the exact one.
func TestSubstrOfGreatNumbers(t *testing.T) {
	var list []float64
	for _, x := range []float64{1 << 51, 1 << 52, 1 << 53, 1 << 54, 1 << 60, 1 << 62, 1 << 63, 1 << 64, 1e21, 1e300, math.MaxFloat64, math.Inf(1)} {
		for _, y := range []float64{x, math.Nextafter(x, 0), math.Nextafter(x, math.Inf(1)), x - 1, x + 1, x + 2, x + 3, x - 3, x + 0.5, x - 0.5, x + 1.5} {
			list = append(list, y, -y)
		}
	}
	list = append(list, 0, 1, 2, 3, -1, -2, 0.5, 1.5, math.SmallestNonzeroFloat64, -math.SmallestNonzeroFloat64, math.NaN())
	hits := 0
	for _, m := range list {
		for _, n := range list {
			holdPlaces(t, "abc", m, n)
			if got := chars.Substr("abc", bits(m), bits(n)); got != "" && got != "abc" {
				hits++
			}
		}
	}
	if hits < 50 {
		t.Errorf("only %d answers are pieces", hits)
	}
}

// P20.2: drawn texts and numbers, and doubles of any bits.
func TestSubstrOfDrawnNumbers(t *testing.T) {
	seed := uint64(202)
	draws := func() float64 {
		switch between(&seed, 0, 9) {
		case 0:
			return math.Float64frombits(random(&seed))
		case 1:
			return float64(between(&seed, -1<<40, 1<<40))
		}
		return float64(between(&seed, -80, 120)) / pick(&seed, 1.0, 2, 4, 3)
	}
	for range 20000 {
		holdPlaces(t, draw(&seed, 30), draws(), draws())
	}
}

// P20.2: a text above MaxText is answered whole, and its last bytes by their places.
func TestSubstrOfALongText(t *testing.T) {
	s := row(1<<24+3) + "yz"
	holdSubstr(t, s, api.One, api.Inf, s)
	holdSubstr(t, s, bits(1), bits(1<<24+4), s[:len(s)-1])
	holdSubstr(t, s, bits(1<<24+4), bits(1), "y")
	holdSubstr(t, s, bits(1<<24+5), bits(9), "z")
	holdSubstr(t, s, bits(1<<24+6), bits(9), "")
	holdFrom(t, s, bits(-5), s)
	holdFrom(t, s, bits(1<<24+4), "yz")
}
