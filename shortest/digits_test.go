package shortest_test

import (
	"math"
	"strings"
	"sync"
	"testing"

	"abacus/api"
	"abacus/shortest"
)

// P12.1: the document's examples.
func TestDigitsExamples(t *testing.T) {
	for _, c := range []struct {
		d uint64
		x api.Dec
	}{
		{0x3fb999999999999a, dec(false, "1", -1)}, {0x3fd3333333333333, dec(false, "3", -1)}, {0x3fd3333333333334, dec(false, "30000000000000004", -17)}, {1, dec(false, "5", -324)}, {api.Most, dec(false, "17976931348623157", 292)}, {0x0010000000000000, dec(false, "22250738585072014", -324)}, {0x43b0000000000000, dec(false, "1152921504606847", 3)}, {minus, dec(true, "0", 0)}, {0, dec(false, "0", 0)}, {0xc024000000000000, dec(true, "1", 1)},
		{0x4310000000000001, dec(false, "11258999068426242", -1)}, {0x4310000000000003, dec(false, "11258999068426248", -1)},
	} {
		if x, e := shortest.Digits(c.d); x != c.x || e != api.OK {
			t.Errorf("Digits(%016x) = %v, %d, want %v", c.d, x, e, c.x)
		}
	}
}

// P12.2: the document's examples.
func TestWithinExamples(t *testing.T) {
	for _, c := range []struct {
		d  uint64
		n  int
		x  api.Dec
		ok bool
	}{
		{0x3fd5555555555555, 15, api.Dec{}, false}, {0xbfd5555555555555, 15, api.Dec{}, false}, {0x3fd5555555555555, 16, dec(false, "3333333333333333", -16), true}, {0x3fd5555555555555, 17, dec(false, "33333333333333331", -17), true}, {0x3fe0000000000000, 17, dec(false, "5", -1), true}, {0, 3, dec(false, "0", 0), true}, {minus, 17, dec(true, "0", 0), true}, {minus, 1, dec(true, "0", 0), true},
		{1, 1, dec(false, "5", -324), true}, {1, 2, dec(false, "49", -325), true}, {1, 17, dec(false, "49406564584124654", -340), true},
	} {
		if x, ok, e := shortest.Within(c.d, c.n); x != c.x || ok != c.ok || e != api.OK {
			t.Errorf("Within(%016x, %d) = %v, %v, %d, want %v, %v", c.d, c.n, x, ok, e, c.x, c.ok)
		}
	}
}

// P12.1, P12.2, P12.3: no digits of an infinity or a NaN; that is told ahead of a wrong number of figures.
func TestNotFinite(t *testing.T) {
	for _, d := range []uint64{api.Inf, api.Inf | minus, api.NaN, api.NaN | minus, api.Inf + 1, 1<<64 - 1, 1<<63 - 1} {
		if x, e := shortest.Digits(d); x != (api.Dec{}) || e != api.ErrFinite {
			t.Errorf("Digits(%016x) = %v, %d", d, x, e)
		}
		if lo, hi, closed, e := shortest.Bounds(d); lo != (api.Dec{}) || hi != (api.Dec{}) || closed || e != api.ErrFinite {
			t.Errorf("Bounds(%016x) = %v, %v, %v, %d", d, lo, hi, closed, e)
		}
		for _, n := range []int{0, 1, 17, 18, -1, minInt, maxInt} {
			if x, ok, e := shortest.Within(d, n); x != (api.Dec{}) || ok || e != api.ErrFinite {
				t.Errorf("Within(%016x, %d) = %v, %v, %d", d, n, x, ok, e)
			}
		}
	}
}

// P12.2: numbers of figures outside of 1 to 17, of every kind of finite double.
func TestWrongFigures(t *testing.T) {
	for _, d := range []uint64{0, minus, 1, 1 | minus, api.One, api.Most, 0x3fb999999999999a} {
		for _, n := range []int{0, -1, -17, 18, 19, 1 << 32, 1<<32 + 1, minInt, minInt + 1, maxInt} {
			if x, ok, e := shortest.Within(d, n); x != (api.Dec{}) || ok || e != api.ErrArg {
				t.Errorf("Within(%016x, %d) = %v, %v, %d", d, n, x, ok, e)
			}
		}
	}
}

// P12.1, P12.2: edges, at every number of figures.
func TestDigitsEdges(t *testing.T) {
	for _, d := range edges() {
		holdDigits(t, d)
		for n := 1; n <= 17; n++ {
			holdWithin(t, d, n)
		}
	}
}

// P12.1, P12.2: all powers of two: below them the doubles lie closer, so that the nearest decimal may be out and the next one in.
func TestPowersOfTwo(t *testing.T) {
	skipped := 0
	for k := -1074; k <= 1023; k++ {
		d := math.Float64bits(math.Ldexp(1, k))
		n := holdDigits(t, d)
		for m := max(n-1, 1); m <= min(n+1, 17); m++ {
			holdWithin(t, d, m)
		}
		x, _ := shortest.Digits(d)
		below := dec(false, x.Digits, x.Exp)
		below.Digits = below.Digits[:n-1] + string(below.Digits[n-1]-1)
		r := worth(d)
		if up, down := value(x), value(below); up.Cmp(r) > 0 && up.Sub(up, r).Cmp(down.Sub(r, down)) > 0 {
			skipped++
		}
	}
	if skipped < 5 {
		t.Errorf("only at %d powers is the nearest one out", skipped)
	}
}

// P12.1, P12.2: doubles just between two decimals of so many figures: the even one is told. Such a double is an odd number over 2^(places+1).
func TestTwoAsNear(t *testing.T) {
	seed, ties, down := uint64(121), 0, 0
	for range 20000 {
		n := between(&seed, 15, 17)
		p := between(&seed, 8, n-2)
		scale := 1 << (n - p)
		low := int(math.Pow10(p)) * scale
		odd := between(&seed, low, min(10*low, 1<<53)-1) | 1
		d := math.Float64bits(float64(odd) / float64(scale))
		if !holdWithin(t, d, n) {
			continue
		}
		ties++
		if x, _, _ := shortest.Within(d, n); value(x).Cmp(worth(d)) < 0 {
			down++
		}
		holdDigits(t, d)
	}
	if ties < 1000 || down < ties/3 || down > ties*2/3 {
		t.Errorf("%d lay between two, %d of them went down", ties, down)
	}
}

// P12.1, P12.2: about powers of ten, where a row of nines carries into one figure more.
func TestCarries(t *testing.T) {
	for k := 13; k <= 24; k++ {
		d := math.Float64bits(math.Pow10(k))
		for i := -30; i <= 30; i++ {
			holdDigits(t, d+uint64(i))
			for n := 14; n <= 17; n++ {
				holdWithin(t, d+uint64(i), n)
			}
		}
	}
}

// P12.1, P12.2: doubles that are drawn.
func TestDigitsDrawn(t *testing.T) {
	seed, long := uint64(122), 0
	for range 8000 {
		d := drawDouble(&seed)
		if holdDigits(t, d) == 17 {
			long++
		}
		holdWithin(t, d, between(&seed, 1, 17))
		holdWithin(t, d, between(&seed, 14, 17))
	}
	if long < 1000 {
		t.Errorf("only %d with 17 figures", long)
	}
}

// P12.1: a decimal of at most 15 figures, read and told again, is itself.
func TestShortDecimals(t *testing.T) {
	seed := uint64(123)
	for range 5000 {
		n := between(&seed, 1, 15)
		w := random(&seed)%uint64(math.Pow10(n)) + 1
		x := tidy(formatUint(w), between(&seed, -300, 280))
		if len(x.Digits) > 15 {
			continue
		}
		d := read(x)
		if got, e := shortest.Digits(d); got != x || e != api.OK {
			t.Fatalf("Digits(%016x) = %v, %d, want %v", d, got, e, x)
		}
	}
}

// P1, P2: any double, any number; the same is told each time, and by calls that run side by side.
func TestSame(t *testing.T) {
	var all sync.WaitGroup
	told := make([]string, 4)
	for i := range told {
		all.Add(1)
		go func() {
			defer all.Done()
			var b strings.Builder
			seed := uint64(124)
			for range 1500 {
				d, n := random(&seed), [...]int{between(&seed, -3, 20), int(random(&seed))}[between(&seed, 0, 1)]
				x, e := shortest.Digits(d)
				y, ok, f := shortest.Within(d, n)
				if (e != api.OK) != (x.Digits == "") || ok != (y.Digits != "") || f != api.OK && ok {
					b.WriteString("an error beside digits, or neither")
				}
				lo, hi, _, _ := shortest.Bounds(d)
				b.WriteString(x.Digits + " " + y.Digits + " " + lo.Digits + " " + hi.Digits + " " + shortest.Text(d) + "\n")
			}
			told[i] = b.String()
		}()
	}
	all.Wait()
	for _, text := range told {
		if text != told[0] || strings.Contains(text, "beside") {
			t.Fatal("the calls differ")
		}
	}
}
