package gather_test

import (
	"testing"

	"abacus/api"
	"abacus/gather"
)

// P7.6: each addend counts from its call on, and asking changes nothing.
func TestAccGrows(t *testing.T) {
	seed := uint64(79)
	for range 100 {
		a := gather.New()
		var list []pair
		holds(t, "new", a, list)
		for range between(&seed, 1, 25) {
			x, y := draw(&seed), draw(&seed)
			if between(&seed, 0, 1) == 0 {
				a.Add(x)
				list = append(list, pair{x, one})
			} else {
				a.AddProduct(x, y)
				list = append(list, pair{x, y})
			}
			holds(t, "grown", a, list)
			holds(t, "asked again", a, list)
		}
	}
}

// P7.1, P7.6: every product of two of the edges.
func TestAccEdges(t *testing.T) {
	list := doubles()
	for i, x := range list {
		a := gather.New()
		a.Add(x)
		holds(t, "one double", a, []pair{{x, one}})
		for j, y := range list {
			a := gather.New()
			a.AddProduct(x, y)
			holds(t, "one product", a, []pair{{x, y}})
			z := list[(i+3*j)%len(list)]
			a.Add(z)
			holds(t, "a product and a double", a, []pair{{x, y}, {z, one}})
		}
	}
}

// P7.6: Reset lets nothing behind: no number, no zero's sign, no stranger.
func TestReset(t *testing.T) {
	a := gather.New()
	for _, x := range doubles() {
		a.Add(x)
		a.AddProduct(x, three)
		a.Reset()
		holds(t, "reset", a, nil)
		a.Add(minus)
		holds(t, "used again", a, []pair{{minus, one}})
		a.Reset()
	}
	a.Reset()
	holds(t, "reset twice", a, nil)
}

// doubled: an Acc with 2^n addends x * y.
func doubled(x, y uint64, n int) *gather.Acc {
	a := gather.New()
	a.AddProduct(x, y)
	for range n {
		a.Merge(a)
	}
	return a
}

// P7.6: at MaxAddends every further addend is turned away, and what is held stays.
func TestMostAddends(t *testing.T) {
	a := doubled(one, one, 40)
	for range 3 {
		a.Add(api.NaN)
		a.Add(one)
		a.AddProduct(two, two)
		a.Merge(a)
		a.Merge(doubled(one, one, 0))
		a.Merge(gather.New())
		if n, d := a.Count(), a.Value(); n != api.MaxAddends || d != power(40) {
			t.Errorf("at the limit: %d, %016x", n, d)
		}
		if m, e := a.Mean(); m != one || e != api.OK {
			t.Errorf("the mean at the limit: %016x, error %d", m, e)
		}
	}
}

// P7.6: Merge goes just up to MaxAddends, and does nothing where it would go beyond.
func TestMergeToTheLimit(t *testing.T) {
	a := doubled(one, one, 39)
	b := a.Copy()
	b.Add(two)
	a.Merge(b) // 2^39 + 2^39 + 1
	if n, d := a.Count(), a.Value(); n != 1<<39 || d != power(39) {
		t.Errorf("beyond the limit: %d, %016x", n, d)
	}
	b.Merge(a)
	if n := b.Count(); n != 1<<39+1 {
		t.Errorf("beyond the limit, the other way: %d", n)
	}
	c := doubled(two, one, 39)
	a.Merge(c)
	if n, d := a.Count(), a.Value(); n != api.MaxAddends || d != 0x4278000000000000 {
		t.Errorf("just the limit: %d, %016x", n, d)
	}
	d := a.Copy()
	d.Reset()
	d.Add(one)
	d.Merge(a)
	if d.Count() != 1 {
		t.Errorf("one and the limit: %d", d.Count())
	}
	d.Reset()
	d.Merge(a)
	if d.Count() != api.MaxAddends || d.Value() != a.Value() {
		t.Errorf("nothing and the limit: %d, %016x", d.Count(), d.Value())
	}
}

// P7.1, P7.6: the greatest sums that there can be are exact, of either sign, and so are the least.
func TestWidestSums(t *testing.T) {
	for _, s := range []uint64{0, minus} {
		a := doubled(api.Most, api.Most|s, 40)
		if d := a.Value(); d != api.Inf|s {
			t.Errorf("the greatest sum is %016x", d)
		}
		if d, e := a.Mean(); d != api.Inf|s || e != api.OK {
			t.Errorf("the greatest mean is %016x, error %d", d, e)
		}
		a = doubled(api.Most, api.Most|s, 38)
		a.Merge(doubled(api.Most, power(1000)|s, 37))
		a.Add(three)
		a.Merge(doubled(api.Most|minus, power(1000)|s, 37))
		a.Merge(doubled(api.Most|minus, api.Most|s, 37))
		a.Merge(doubled(api.Most|minus, api.Most|s, 37))
		if n, d := a.Count(), a.Value(); n != 3<<38+1 || d != three {
			t.Errorf("what is left of the greatest sums: %d, %016x", n, d)
		}
		a = doubled(power(1023), power(1023)|s, 40)
		if d := a.Value(); d != api.Inf|s {
			t.Errorf("2^2086 is %016x", d)
		}
		a = doubled(1, 1|s, 40)
		if d := a.Value(); d != s {
			t.Errorf("a sum of the least products is %016x", d)
		}
		a = doubled(1, power(-41)|s, 40)
		if d := a.Value(); d != s {
			t.Errorf("just half of the least double is %016x", d)
		}
		a = doubled(1, power(-40)|s, 39)
		a.AddProduct(1, 1|s)
		if d := a.Value(); d != 1|s {
			t.Errorf("a little more than half of the least double is %016x", d)
		}
	}
}

// ones: a product (2^53 - 1) * 2^e, of e from -2148 to 1994.
func ones(e int) pair {
	a := max(e/2, -1074)
	b := e - a
	y := uint64(1) << max(b+1074, 0)
	if b >= -1022 {
		y = power(b)
	}
	return pair{uint64(a+1075)<<52 | (1<<52 - 1), y}
}

// P7.1, P7.6: a carry goes from the least product's last bit up to the greatest's first.
func TestCarries(t *testing.T) {
	for _, s := range []uint64{0, minus} {
		var list []pair
		for e := -2148; e <= 1880; e += 53 {
			p := ones(e)
			list = append(list, pair{p.x ^ s, p.y})
		}
		list = append(list, pair{1, 1 | s}) // 2^(-2148 + 53 * 77)
		holds(t, "a long carry", filledWith(list), list)
		high := -2148 + 53*len(list) - 53
		list = append(list, pair{power(1000), power(high-1000) | s ^ minus})
		holds(t, "a long carry taken off", filledWith(list), list)
		if d := filledWith(list).Value(); d != 0 {
			t.Errorf("a long carry and its power of two sum up to %016x", d)
		}
	}
}

// P7.7: the document's example.
func TestMergeExample(t *testing.T) {
	a := gather.New()
	a.Add(one)
	a.Merge(a)
	a.Merge(a)
	holds(t, "merged twice", a, []pair{{one, one}, {one, one}, {one, one}, {one, one}})
}

// filledWith: an Acc with these addends.
func filledWith(list []pair) *gather.Acc {
	a := gather.New()
	for _, p := range list {
		a.AddProduct(p.x, p.y)
	}
	return a
}

// drawPairs: addends of all kinds; most lists have none but numbers, some have none but zeros.
func drawPairs(seed *uint64, n int) []pair {
	list := pairs(drawMany(seed, n), drawMany(seed, n))
	kind := between(seed, 0, 9)
	for i := range list {
		switch {
		case kind == 0:
			list[i].x = minus
			list[i].y &^= minus
		case kind == 1:
			list[i].x = random(seed) & minus
		case kind < 4 && between(seed, 0, 4) == 0:
			list[i].x = doubles()[between(seed, 0, len(doubles())-1)]
		}
	}
	return list
}

// P7.7: Merge with another, with itself, with nothing; the other stays as it is.
func TestMerge(t *testing.T) {
	seed := uint64(80)
	for range 600 {
		p, q := drawPairs(&seed, between(&seed, 0, 12)), drawPairs(&seed, between(&seed, 0, 12))
		a, b := filledWith(p), filledWith(q)
		a.Merge(b)
		both := append(append([]pair{}, p...), q...)
		holds(t, "merged", a, both)
		holds(t, "the other one", b, q)
		a.Merge(nil)
		a.Merge(gather.New())
		holds(t, "merged with nothing", a, both)
		a.Merge(a)
		holds(t, "merged with itself", a, append(both, both...))
		n := gather.New()
		n.Merge(b)
		holds(t, "nothing merged", n, q)
	}
}

// P7.7, P7.8: a copy holds the same, and then goes its own way; so does what was merged.
func TestCopiesPart(t *testing.T) {
	seed := uint64(81)
	for range 300 {
		p, q := drawPairs(&seed, between(&seed, 0, 12)), drawPairs(&seed, between(&seed, 1, 6))
		a := filledWith(p)
		b := a.Copy()
		holds(t, "the copy", b, p)
		for _, x := range q {
			b.AddProduct(x.x, x.y)
		}
		holds(t, "the copied one", a, p)
		holds(t, "the grown copy", b, append(append([]pair{}, p...), q...))
		c := a.Copy()
		a.Add(two)
		holds(t, "a copy whose source grew", c, p)
		a.Reset()
		holds(t, "a copy whose source is reset", c, p)
		d := gather.New()
		d.Merge(c)
		c.Add(three)
		holds(t, "merged ahead of the other's growing", d, p)
		d.Reset()
		holds(t, "merged into what is reset", c, append(append([]pair{}, p...), pair{three, one}))
	}
	if gather.New() == gather.New() {
		t.Error("two calls of New answer one Acc")
	}
}

// Types: a nil *Acc does nothing and answers zero values.
func TestNilAcc(t *testing.T) {
	var a *gather.Acc
	b := filledWith([]pair{{two, two}})
	a.Add(one)
	a.AddProduct(one, one)
	a.Merge(b)
	a.Merge(nil)
	a.Reset()
	if n, d := a.Count(), a.Value(); n != 0 || d != 0 {
		t.Errorf("a nil Acc holds %d, %016x", n, d)
	}
	if d, e := a.Mean(); d != 0 || e != api.ErrState {
		t.Errorf("the mean of a nil Acc is %016x, error %d", d, e)
	}
	if a.Copy() != nil {
		t.Error("the copy of a nil Acc is one")
	}
	holds(t, "merged into a nil one", b, []pair{{two, two}})
}
