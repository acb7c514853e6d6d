package gather_test

import (
	"math/big"
	"slices"
	"testing"

	"abacus/api"
	"abacus/gather"
)

// P7.1, P7.2: the document's examples.
func TestSumExamples(t *testing.T) {
	sums(t, []uint64{0x7fe0000000000000, 0x7fe0000000000000, 0xffe0000000000000}, 0x7fe0000000000000)
	sums(t, []uint64{one, power(-53), power(-53)}, 0x3ff0000000000001)
	sums(t, []uint64{one, power(-53)}, one)
	sums(t, []uint64{one, power(-53), 1}, 0x3ff0000000000001)
	sums(t, nil, 0)
	sums(t, []uint64{}, 0)
	sums(t, []uint64{minus}, minus)
	sums(t, []uint64{minus, 0}, 0)
	sums(t, []uint64{one, one | minus}, 0)
	sums(t, []uint64{api.Inf, api.Inf | minus}, 0x7ff8000000000000)
	for _, d := range nans() {
		sums(t, []uint64{d}, 0x7ff8000000000000)
	}
}

// P7.1, P7.2: every list of two of the edges, and of three with one of its neighbours.
func TestSumOfEdges(t *testing.T) {
	list := doubles()
	for i, a := range list {
		sums(t, []uint64{a}, over(single([]uint64{a}), 1))
		for j, b := range list {
			c := list[(i+j*7)%len(list)]
			for _, ds := range [][]uint64{{a, b}, {a, b, c}} {
				sums(t, ds, over(single(ds), 1))
			}
		}
	}
}

// P7.1: numbers that cancel out, in any order; all that is left is found again.
func TestSumDrawn(t *testing.T) {
	seed := uint64(71)
	for range 1500 {
		ds := drawMany(&seed, between(&seed, 0, 40))
		want := over(single(ds), 1)
		sums(t, ds, want)
		sums(t, mixed(&seed, ds), want)
		back := slices.Clone(ds)
		for _, d := range ds {
			back = append(back, d^minus)
		}
		left := draw(&seed)
		sums(t, mixed(&seed, append(back, left, one, one|minus)), over(single([]uint64{left, 0}), 1))
	}
}

// P7.1: at the ends a sum is an infinity, or a zero, with its sign.
func TestSumAtTheEnds(t *testing.T) {
	last := power(970) // half of what the last bit of the greatest double counts
	for _, s := range []uint64{0, minus} {
		sums(t, []uint64{api.Most | s, last | s}, api.Inf|s)
		sums(t, []uint64{api.Most | s, (last - 1) | s}, api.Most|s)
		sums(t, []uint64{api.Most | s, last | s, 1 | s ^ minus}, api.Most|s)
		sums(t, []uint64{api.Most | s, (last - 1) | s, power(917) | s}, api.Inf|s)
		sums(t, filled(1000, api.Most|s), api.Inf|s)
		dots(t, []uint64{1 | s}, []uint64{half}, s)
		dots(t, []uint64{1 | s, 1 | s}, []uint64{half, 1}, 1|s)
		dots(t, []uint64{1 | s, 1 | s}, []uint64{half, 1 | minus}, s)
		dots(t, []uint64{3 | s}, []uint64{half}, 2|s)
		dots(t, []uint64{1 | s}, []uint64{1}, s)
	}
}

// P7.1, rules 1 to 3: what is no number decides, wherever it stands.
func TestSumOfStrangers(t *testing.T) {
	seed := uint64(72)
	for range 600 {
		n := [...]int{between(&seed, 1, 12), between(&seed, 1020, 1100)}[between(&seed, 0, 1)]
		ds := drawMany(&seed, n)
		for range between(&seed, 1, 3) {
			ds[between(&seed, 0, n-1)] = [...]uint64{api.Inf, api.Inf | minus, api.Inf, api.Inf, nans()[between(&seed, 0, 7)]}[between(&seed, 0, 4)]
		}
		sums(t, ds, over(single(ds), 1))
		means(t, ds, over(single(ds), n))
	}
}

// P7.1, rule 5: the sign of a zero.
func TestSumOfZeros(t *testing.T) {
	for _, n := range []int{1, 2, 3, 1023, 1024, 1025, 4000} {
		sums(t, filled(n, minus), minus)
		sums(t, filled(n, 0), 0)
		means(t, filled(n, minus), minus)
		means(t, filled(n, 0), 0)
		for _, i := range []int{0, n / 2, n - 1} {
			ds := filled(n+1, minus)
			ds[i] = 0
			sums(t, ds, 0)
			means(t, ds, 0)
			ds = append(filled(n, minus), one, one|minus)
			ds[i], ds[n] = ds[n], ds[i]
			sums(t, ds, 0)
			means(t, ds, 0)
		}
	}
}

// P7.2: lists about the length from which several add up, and longer ones; no item is left out and none is taken twice.
func TestSumLong(t *testing.T) {
	seed := uint64(73)
	for _, n := range []int{1000, 1022, 1023, 1024, 1025, 1026, 1027, 1028, 1029, 1030, 1031, 1032, 2047, 2048, 5000} {
		ds := drawMany(&seed, n)
		want := over(single(ds), 1)
		sums(t, ds, want)
		sums(t, mixed(&seed, ds), want)
		means(t, ds, over(single(ds), n))
		sums(t, filled(n, one), bitsOf(float64(n)))
		for i := range n {
			ds = filled(n, 0)
			ds[i] = power(i % 900)
			if d := gather.Sum(ds); d != power(i%900) {
				t.Fatalf("Sum of %d with a number at place %d = %016x", n, i, d)
			}
		}
	}
}

// P7.2, rule 4: a long list sums up to the same however often it is asked.
func TestSumAgain(t *testing.T) {
	seed := uint64(74)
	ds := drawMany(&seed, 3000)
	want := over(single(ds), 1)
	for range 200 {
		sums(t, ds, want)
	}
}

// P7.3: the document's examples.
func TestDotExamples(t *testing.T) {
	dots(t, []uint64{power(-600), power(-600) | minus}, []uint64{power(-600), power(-600)}, 0)
	dots(t, []uint64{power(-600)}, []uint64{power(-600) | minus}, minus)
	dots(t, []uint64{0}, []uint64{one | minus}, minus)
	dots(t, []uint64{api.Inf}, []uint64{0}, api.NaN)
	dots(t, nil, nil, 0)
	dots(t, []uint64{}, nil, 0)
}

// P7.1, P7.3: the product of every two of the edges, alone and beside others.
func TestDotOfEdges(t *testing.T) {
	list := doubles()
	for i, a := range list {
		for j, b := range list {
			dots(t, []uint64{a}, []uint64{b}, over([]pair{{a, b}}, 1))
			xs, ys := []uint64{a, list[(3*i+j)%len(list)]}, []uint64{b, list[(i+5*j)%len(list)]}
			dots(t, xs, ys, over(pairs(xs, ys), 1))
		}
	}
}

// P7.3: products that cancel out.
func TestDotDrawn(t *testing.T) {
	seed := uint64(75)
	for range 1500 {
		n := between(&seed, 1, 30)
		xs, ys := drawMany(&seed, n), drawMany(&seed, n)
		dots(t, xs, ys, over(pairs(xs, ys), 1))
		xs2, ys2 := append(slices.Clone(xs), ys...), append(slices.Clone(ys), xs...)
		for i := range n {
			xs2[n+i] ^= minus
		}
		xs2, ys2 = append(xs2, draw(&seed)), append(ys2, draw(&seed))
		dots(t, xs2, ys2, over(pairs(xs2, ys2), 1))
	}
}

// P7.3: lists of unlike lengths.
func TestDotErrors(t *testing.T) {
	lists := [][]uint64{nil, {one}, {one, api.NaN}, filled(1024, one)}
	for i, xs := range lists {
		for j, ys := range lists {
			if i == j {
				continue
			}
			if d, e := gather.Dot(xs, ys); d != 0 || e != api.ErrPairs {
				t.Errorf("Dot of %d and %d doubles = %016x, error %d", len(xs), len(ys), d, e)
			}
		}
	}
}

// P7.4: the document's examples, and the error.
func TestMeanExamples(t *testing.T) {
	means(t, filled(3, power(1023)), power(1023))
	means(t, []uint64{one, two}, 0x3ff8000000000000)
	means(t, []uint64{one, 0, 0}, 0x3fd5555555555555)
	for _, ds := range [][]uint64{nil, {}} {
		if d, e := gather.Mean(ds); d != 0 || e != api.ErrNone {
			t.Errorf("Mean of nothing = %016x, error %d", d, e)
		}
	}
}

// P7.4: rounded once, by the exact sum; a mean of what is finite is finite.
func TestMean(t *testing.T) {
	seed := uint64(76)
	for _, a := range doubles() {
		for _, b := range doubles() {
			for _, ds := range [][]uint64{{a}, {a, b}, {a, b, b}} {
				means(t, ds, over(single(ds), len(ds)))
			}
		}
	}
	for range 1500 {
		ds := drawMany(&seed, between(&seed, 1, 40))
		means(t, ds, over(single(ds), len(ds)))
	}
	for _, s := range []uint64{0, minus} {
		means(t, filled(5000, api.Most|s), api.Most|s)
		means(t, []uint64{1 | s, 0}, s)
		means(t, []uint64{1 | s, 1 | s, 0}, 1|s)
		means(t, []uint64{1 | s, 0, 0, 0}, s)
		means(t, []uint64{3 | s, 0}, 2|s)
	}
}

// variance: what P7.5 says of finite doubles.
func variance(ds []uint64) uint64 {
	n, s1 := big.NewInt(int64(len(ds))), new(big.Int)
	for _, d := range ds {
		s1.Add(s1, units(d))
	}
	x := new(big.Int).Mul(n, total(pairs(ds, ds)))
	x.Sub(x, s1.Mul(s1, s1))
	return nearest(x, n.Mul(n, n), 2148)
}

// P7.5: the document's examples, and the error.
func TestVarianceExamples(t *testing.T) {
	varies(t, []uint64{one, two, three}, 0x3fe5555555555555)
	varies(t, []uint64{power(1000)}, 0)
	for _, ds := range [][]uint64{nil, {}} {
		if d, e := gather.Variance(ds); d != 0 || e != api.ErrNone {
			t.Errorf("Variance of nothing = %016x, error %d", d, e)
		}
	}
}

// P7.5: the exact variance, rounded once.
func TestVariance(t *testing.T) {
	seed := uint64(77)
	for _, a := range positives() {
		for _, b := range positives() {
			for _, ds := range [][]uint64{{a}, {a | minus}, {a, b}, {a, b | minus}, {a, b, b}, {b, b + 1, b}} {
				if !slices.ContainsFunc(ds, infinite) {
					varies(t, ds, variance(ds))
				}
			}
		}
	}
	for range 1000 {
		ds := drawMany(&seed, between(&seed, 1, 30))
		varies(t, ds, variance(ds))
	}
	ds := drawMany(&seed, 2000)
	varies(t, ds, variance(ds))
	varies(t, filled(2000, minus), 0)
	varies(t, filled(2000, 0x3fd5555555555555), 0)
	varies(t, []uint64{api.Most, api.Most | minus}, api.Inf)
}

// P7.5: a double that isn't finite.
func TestVarianceOfStrangers(t *testing.T) {
	for _, d := range append(nans(), api.Inf, api.Inf|minus) {
		varies(t, []uint64{d}, api.NaN)
		varies(t, []uint64{d, d}, api.NaN)
		varies(t, []uint64{0, d}, api.NaN)
		varies(t, []uint64{d, one, 0}, api.NaN)
		varies(t, append(filled(1500, one), d), api.NaN)
	}
}

// isRoot: whether h is what the root of s * 2^-2148 rounds to: by the squares of the middles between h and its neighbours.
func isRoot(h uint64, s *big.Int) bool {
	if h > api.Inf {
		return false
	}
	odd := h&1 == 1
	middle := func(d uint64) int { // how s lies to the square of the middle above d
		m := new(big.Int).Add(units(d), units(d+1))
		return new(big.Int).Lsh(s, 2).Cmp(m.Mul(m, m))
	}
	if h > 0 {
		if c := middle(h - 1); c < 0 || c == 0 && odd {
			return false
		}
	}
	if h < api.Inf {
		if c := middle(h); c > 0 || c == 0 && odd {
			return false
		}
	}
	return true
}

// P7.5: the document's examples.
func TestHypotExamples(t *testing.T) {
	hypots(t, []uint64{three, four}, five)
	hypots(t, []uint64{power(1000), power(1000)}, 0x7e76a09e667f3bcd)
	hypots(t, nil, 0)
	hypots(t, []uint64{five | minus}, five)
}

// P7.5: the root of the exact sum of squares, rounded once.
func TestHypot(t *testing.T) {
	seed := uint64(78)
	var lists [][]uint64
	for _, a := range positives() {
		hypots(t, []uint64{a | minus}, a)
		for _, b := range positives() {
			lists = append(lists, []uint64{a, b}, []uint64{a, b | minus, b, 1})
		}
	}
	for range 1000 {
		lists = append(lists, drawMany(&seed, between(&seed, 1, 20)))
	}
	for _, ds := range append(lists, drawMany(&seed, 2000), filled(3000, api.Most), filled(3000, 1)) {
		if h := gather.Hypot(ds...); !isRoot(h, total(pairs(ds, ds))) {
			t.Errorf("Hypot(%016x) = %016x", head(ds), h)
		}
	}
}

// P7.5: roots just at a middle between two doubles, and by the least square above or below it.
func TestHypotAtMiddles(t *testing.T) {
	for _, m := range []uint64{1<<53 + 1, 1<<53 + 3, 1<<54 - 1} { // each has one bit more than a double, the last a 1
		square := new(big.Int).SetUint64(m)
		square.Mul(square, square)
		ds := squares(square)
		down := bitsOf(float64(m - 1))
		hypots(t, ds, down+down&1)
		hypots(t, append(ds, 1), down+1)
		hypots(t, squares(square.Sub(square, big.NewInt(1))), down)
	}
	hypots(t, []uint64{1, 1, 1}, 2) // 1.73
	hypots(t, []uint64{1, 1}, 1)    // 1.41
}

// squares: whole doubles whose squares sum up to n, the greatest that fits first.
func squares(n *big.Int) []uint64 {
	var ds []uint64
	rest := new(big.Int).Set(n)
	for rest.Sign() > 0 {
		r := new(big.Int).Sqrt(rest)
		for r.BitLen() > 53 {
			r.Rsh(r, 1)
		}
		rest.Sub(rest, new(big.Int).Mul(r, r))
		ds = append(ds, bitsOf(float64(r.Uint64())))
	}
	return ds
}

// P7.5: a NaN, then an infinity.
func TestHypotOfStrangers(t *testing.T) {
	for _, s := range []uint64{0, minus} {
		hypots(t, []uint64{api.Inf | s}, api.Inf)
		hypots(t, []uint64{0, api.Inf | s, one}, api.Inf)
		hypots(t, []uint64{api.Inf, api.Inf | s}, api.Inf)
		hypots(t, []uint64{s, minus}, 0)
		hypots(t, []uint64{s}, 0)
		for _, d := range nans() {
			hypots(t, []uint64{d}, api.NaN)
			hypots(t, []uint64{api.Inf | s, d, api.Inf}, api.NaN)
			hypots(t, []uint64{d, one}, api.NaN)
		}
	}
}
