package fixed_test

import (
	"math"
	"strings"
	"sync"
	"testing"

	"abacus/api"
	"abacus/fixed"
)

// P11.1: the document's examples.
func TestPlacesExamples(t *testing.T) {
	for _, c := range []struct {
		d     uint64
		n     int
		whole string
		rest  string
	}{
		{0x3fe0000000000000, 0, "0", ""}, {0x3ff8000000000000, 0, "2", ""}, {0x4004000000000000, 0, "2", ""}, {0x3fc0000000000000, 2, "0", "12"}, {0x3fd8000000000000, 2, "0", "38"}, {0x3fb999999999999a, 20, "0", "10000000000000000555"},
		{api.One, 3, "1", "000"}, {api.One | minus, 3, "1", "000"}, {0, 5, "0", "00000"}, {minus, 5, "0", "00000"}, {0, 0, "0", ""}, {0x4058e00000000000, 0, "100", ""}, {0x44b52d02c7e14af6, 0, "99999999999999991611392", ""},
	} {
		if a, b, e := fixed.Places(c.d, c.n); a != c.whole || b != c.rest || e != api.OK {
			t.Errorf("Places(%016x, %d) = %q, %q, %d, want %q, %q", c.d, c.n, a, b, e, c.whole, c.rest)
		}
	}
	a, b, e := fixed.Places(least, api.MaxPlaces)
	if a != "0" || len(b) != 4200 || !strings.HasPrefix(b, zeros(323)+"49406564584124654") || b[1074:] != zeros(4200-1074) || b[1073] != '5' || e != api.OK {
		t.Errorf("Places of the least double: %q, %q, %d", a, b, e)
	}
}

// P11.2: the document's examples.
func TestFiguresExamples(t *testing.T) {
	for _, c := range []struct {
		d      uint64
		n      int
		digits string
		first  int
	}{
		{api.One, 3, "100", 0}, {0x3fb999999999999a, 1, "1", -1}, {0x3fb999999999999a, 18, "100000000000000006", -1}, {0x4023000000000000, 1, "1", 1}, {0x4021000000000000, 1, "8", 0}, {0x408f3c0000000000, 3, "100", 3}, {0, 3, "000", 0}, {minus, 3, "000", 0}, {api.Most, 5, "17977", 308}, {least, 2, "49", -324}, {api.One, 4200, "1" + zeros(4199), 0}, {0, 4200, zeros(4200), 0},
	} {
		if s, k, e := fixed.Figures(c.d, c.n); s != c.digits || k != c.first || e != api.OK {
			t.Errorf("Figures(%016x, %d) = %q, %d, %d, want %q, %d", c.d, c.n, s, k, e, c.digits, c.first)
		}
	}
}

// P11.3: the document's examples.
func TestAllExamples(t *testing.T) {
	for _, c := range []struct {
		d    uint64
		want api.Dec
	}{
		{0x3fe0000000000000, api.Dec{Digits: "5", Exp: -1}}, {0xc092c00000000000, api.Dec{Neg: true, Digits: "12", Exp: 2}}, {0x3fb999999999999a, api.Dec{Digits: "1000000000000000055511151231257827021181583404541015625", Exp: -55}}, {minus, api.Dec{Neg: true, Digits: "0"}}, {0, api.Dec{Digits: "0"}},
	} {
		if dec, e := fixed.All(c.d); dec != c.want || e != api.OK {
			t.Errorf("All(%016x) = %v, %d, want %v", c.d, dec, e, c.want)
		}
	}
}

// P11.1, P11.2, P11.3: no digits of an infinity or a NaN, and that is told ahead of a wrong number of digits.
func TestNotFinite(t *testing.T) {
	for _, d := range []uint64{api.Inf, api.Inf | minus, api.NaN, api.NaN | minus, api.Inf + 1, 1<<64 - 1, 1<<63 - 1} {
		for _, n := range []int{0, 1, 7, 4200, -1, 4201, minInt, maxInt} {
			if a, b, e := fixed.Places(d, n); a != "" || b != "" || e != api.ErrFinite {
				t.Errorf("Places(%016x, %d) = %q, %q, %d", d, n, a, b, e)
			}
			if s, k, e := fixed.Figures(d, n); s != "" || k != 0 || e != api.ErrFinite {
				t.Errorf("Figures(%016x, %d) = %q, %d, %d", d, n, s, k, e)
			}
		}
		if dec, e := fixed.All(d); dec != (api.Dec{}) || e != api.ErrFinite {
			t.Errorf("All(%016x) = %v, %d", d, dec, e)
		}
	}
}

// P11.1, P11.2: numbers of digits outside of what is taken, of every kind of finite double.
func TestWrongCount(t *testing.T) {
	for _, d := range []uint64{0, minus, least, api.One, api.One | minus, api.Most, 0x3fb999999999999a} {
		for _, n := range []int{-1, -2, 4201, 4202, 1 << 32, -1 << 32, 1<<32 + 1, minInt, minInt + 1, maxInt, maxInt - 1} {
			if a, b, e := fixed.Places(d, n); a != "" || b != "" || e != api.ErrArg {
				t.Errorf("Places(%016x, %d) = %q, %q, %d", d, n, a, b, e)
			}
			if s, k, e := fixed.Figures(d, n); s != "" || k != 0 || e != api.ErrArg {
				t.Errorf("Figures(%016x, %d) = %q, %d, %d", d, n, s, k, e)
			}
		}
		if s, k, e := fixed.Figures(d, 0); s != "" || k != 0 || e != api.ErrArg {
			t.Errorf("Figures(%016x, 0) = %q, %d, %d", d, s, k, e)
		}
	}
}

// edges: doubles at the ends of their classes, powers of two and of ten, and their neighbours.
func edges() []uint64 {
	list := []uint64{0, 1, 2, 3, 4, 5, 9, 10, 1<<52 - 1, 1 << 52, 1<<52 + 1, 1<<53 - 1, 1 << 53, api.One - 1, api.One, api.One + 1, api.Most - 1, api.Most, 0x433fffffffffffff, 0x4340000000000000, 0x4340000000000001}
	for k := -323; k <= 308; k += 7 {
		d := math.Float64bits(math.Pow10(k))
		list = append(list, d-1, d, d+1)
	}
	for k := -1074; k <= 1023; k += 61 {
		list = append(list, math.Float64bits(math.Ldexp(1, k)))
	}
	return list
}

// P11.1: edges, to few places and to as many as there may be.
func TestPlacesEdges(t *testing.T) {
	for _, d := range edges() {
		for _, n := range []int{0, 1, 2, 15, 16, 17, 18, 52, 53, 307, 308, 322, 323, 324, 325, 1073, 1074, 1075, 4199, 4200} {
			holdPlaces(t, d, n)
		}
	}
}

// P11.2: edges, to few figures and to as many as there may be.
func TestFiguresEdges(t *testing.T) {
	for _, d := range edges() {
		for _, n := range []int{1, 2, 3, 15, 16, 17, 18, 53, 308, 309, 310, 750, 751, 752, 766, 767, 768, 4199, 4200} {
			holdFigures(t, d, n)
		}
	}
}

// P11.3: edges, and the double that has the most digits of all.
func TestAllEdges(t *testing.T) {
	for _, d := range edges() {
		holdAll(t, d)
	}
	if dec := holdAll(t, 1<<53-1); len(dec.Digits) != 767 || dec.Exp != -1074 {
		t.Errorf("%d digits, %d", len(dec.Digits), dec.Exp)
	}
	if dec := holdAll(t, least); len(dec.Digits) != 751 || dec.Exp != -1074 {
		t.Errorf("%d digits, %d", len(dec.Digits), dec.Exp)
	}
	if dec := holdAll(t, api.Most); len(dec.Digits) != 309 || dec.Exp != 0 {
		t.Errorf("%d digits, %d", len(dec.Digits), dec.Exp)
	}
}

// P11.1: just between two at n places lies each odd number over 2^(n+1): the even one is told; and a neighbour goes to its own side.
func TestPlacesBetween(t *testing.T) {
	seed := uint64(111)
	for round := range 4000 {
		n := [...]int{between(&seed, 0, 30), between(&seed, 0, 1021)}[round%2]
		d := odd(&seed, n+1)
		if !holdPlaces(t, d, n) {
			t.Fatalf("%016x doesn't lie between two at %d places", d, n)
		}
		holdPlaces(t, d-1, n)
		holdPlaces(t, d+1, n)
	}
}

// P11.2: doubles just between two at some figure, behind the point and ahead of it.
func TestFiguresBetween(t *testing.T) {
	seed, ties := uint64(112), 0
	hold := func(d uint64, n int) {
		if n < 1 {
			return
		}
		if holdFigures(t, d, n) {
			ties++
		}
		holdFigures(t, d-1, n)
		holdFigures(t, d+1, n)
	}
	for round := range 2000 {
		n := [...]int{between(&seed, 0, 30), between(&seed, 0, 1021)}[round%2]
		d := odd(&seed, n+1)
		dec, _ := fixed.All(d)
		hold(d, len(dec.Digits)-1)
		hold(d, len(dec.Digits)+dec.Exp+n)
		// A whole number with a 5 and zeros at its end.
		five := 5.0 * math.Pow10(between(&seed, 0, 15))
		whole := float64(random(&seed)>>between(&seed, 1, 63)|1) * five
		if whole < 1<<53 {
			d = math.Float64bits(whole)
			dec, _ = fixed.All(d)
			hold(d, len(dec.Digits)-1)
		}
	}
	if ties < 3000 {
		t.Errorf("only %d lay between two", ties)
	}
}

// P11.1, P11.2: rows of nines that carry into one figure more, and those that don't.
func TestCarries(t *testing.T) {
	carried := 0
	for k := 1; k <= 15; k++ {
		for _, less := range []float64{0.5, 0.25, 0.75, 0.125, 1e-3} {
			d := math.Float64bits(math.Pow10(k) - less)
			for n := 1; n <= 20; n++ {
				holdFigures(t, d, n)
				holdPlaces(t, d, n-1)
				if s, p, _ := fixed.Figures(d, n); p == k && s == "1"+zeros(n-1) {
					carried++
				}
			}
		}
	}
	if carried < 200 {
		t.Errorf("only %d carried", carried)
	}
	if a, b, e := fixed.Places(0x3fefffffffffffff, 15); a != "1" || b != zeros(15) || e != api.OK {
		t.Errorf("Places of the double below 1: %q, %q, %d", a, b, e)
	}
}

// P11.1: numbers whose first digit stands about where the places end: rounded to 0, or to one unit.
func TestPlacesAboutNothing(t *testing.T) {
	for n := 0; n <= 330; n++ {
		for _, m := range []float64{0.04, 0.4, 0.5, 0.6, 0.99, 1, 4.9, 5, 5.1, 9.9} {
			d := math.Float64bits(m * math.Pow10(-n))
			holdPlaces(t, d, n)
			holdPlaces(t, d+1, n)
		}
	}
	for n := range 1080 {
		holdPlaces(t, least, n)
	}
}

// P11.1, P11.2, P11.3: doubles that are drawn.
func TestDrawn(t *testing.T) {
	seed := uint64(113)
	for round := range 6000 {
		d := drawDouble(&seed)
		n := [...]int{between(&seed, 0, 25), between(&seed, 0, 400), between(&seed, 0, 1100)}[round%3]
		holdPlaces(t, d, n)
		holdFigures(t, d, n+1)
		holdAll(t, d)
	}
}

// P11.2: a row asked for by all its figures and more is All's, with zeros.
func TestFiguresAreAll(t *testing.T) {
	seed := uint64(114)
	for range 1000 {
		d := drawDouble(&seed)
		dec, _ := fixed.All(d)
		for _, more := range []int{0, 1, 40} {
			n := len(dec.Digits) + more
			if s, k, e := fixed.Figures(d, n); s != dec.Digits+zeros(more) || k != dec.Exp+len(dec.Digits)-1 || e != api.OK {
				t.Fatalf("Figures(%016x, %d) = %q, %d, %d; All is %v", d, n, s, k, e, dec)
			}
		}
	}
}

// P1, P2: any double, any number; the same is told each time, and by calls that run side by side.
func TestSame(t *testing.T) {
	var all sync.WaitGroup
	told := make([]string, 4)
	for i := range told {
		all.Add(1)
		go func() {
			defer all.Done()
			var b strings.Builder
			seed := uint64(115)
			for range 600 {
				d, n := random(&seed), [...]int{between(&seed, -3, 60), int(random(&seed)), between(&seed, 4190, 4210)}[between(&seed, 0, 2)]
				whole, rest, e := fixed.Places(d, n)
				s, _, f := fixed.Figures(d, n)
				if (e != api.OK) != (whole == "") || (f != api.OK) != (s == "") {
					b.WriteString("an error beside digits, or neither")
				}
				dec, _ := fixed.All(d)
				b.WriteString(whole + "." + rest + " " + s + " " + dec.Digits + "\n")
			}
			told[i] = b.String()
		}()
	}
	all.Wait()
	for _, text := range told {
		if text != told[0] || strings.Contains(text, "beside") {
			t.Fatal("the calls differ")
		}
	}
}
