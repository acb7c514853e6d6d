package relate_test

import (
	"math"
	"testing"

	"abacus/api"
	"abacus/relate"
)

// holdOrder: Order must answer c, and -c the other way round.
func holdOrder(t *testing.T, a api.Value, b api.Value, c int) {
	t.Helper()
	if got := relate.Order(a, b); got != c {
		t.Fatalf("Order(%s, %s) = %d; want %d", show(a), show(b), got, c)
	}
	if got := relate.Order(b, a); got != -c {
		t.Fatalf("Order(%s, %s) = %d; want %d", show(b), show(a), got, -c)
	}
}

// P18.2: the document's examples, and the like.
func TestOrderExamples(t *testing.T) {
	nan, inf := pattern(api.NaN), num(math.Inf(1))
	for _, r := range []struct {
		a, b api.Value
		c    int
	}{
		{num(5), str(""), -1},
		{num(5), str("4"), -1},
		{strnum(5, "5"), str("4"), -1},
		{api.Value{}, str(""), -1},
		{kind(7), str(""), -1},
		{nan, inf, 1},
		{nan, num(math.Inf(-1)), 1},
		{pattern(api.NaN | minus), inf, 1},
		{pattern(api.NaN | minus), nan, 0},
		{pattern(api.Inf + 1), pattern(1<<64 - 1), 0},
		{api.Value{Kind: api.KindStrnum, Num: api.NaN, Str: "nan"}, nan, 0},
		{nan, str(""), -1},
		{strnum(1, "1.0"), num(1), 0},
		{strnum(1, "1.0"), strnum(1, "1"), 0},
		{strnum(2, "1"), strnum(1, "2"), 1},
		{str("a"), str("ab"), -1},
		{str("\xff"), str("a"), 1},
		{str("10"), str("9"), -1},
		{num(10), num(9), 1},
		{num(0), num(math.Copysign(0, -1)), 0},
		{api.Value{}, num(math.Copysign(0, -1)), 0},
		{api.Value{}, kind(1 << 40), 0},
		{api.Value{}, num(5e-324), -1},
		{api.Value{}, num(-5e-324), 1},
		{inf, inf, 0},
		{inf, pattern(api.Most), 1},
		{num(math.Inf(-1)), pattern(api.Most | minus), -1},
	} {
		holdOrder(t, r.a, r.b, r.c)
	}
}

// P18.2: every sample with every other, by the host's floats and byte by byte; where Compare needs no format and meets no NaN, as it says.
func TestOrderPairs(t *testing.T) {
	list := samples()
	for _, a := range list {
		for _, b := range list {
			c := inOrder(a, b)
			holdOrder(t, a, b, c)
			if d, e := relate.Compare(a, b, ""); isText(a) == isText(b) && d != 2 && (d != c || e != api.OK) {
				t.Fatalf("Order(%s, %s) = %d, but Compare %d, error %d", show(a), show(b), c, d, e)
			}
		}
	}
}

// P18.2: of three values none stands ahead of one that it stands behind by way of the third.
func TestOrderOfThree(t *testing.T) {
	seed := uint64(182)
	for range 300000 {
		a, b, c := draw(&seed), draw(&seed), draw(&seed)
		x, y, z := relate.Order(a, b), relate.Order(b, c), relate.Order(a, c)
		if x <= 0 && y <= 0 && (z > 0 || z == 0 && x+y != 0) || x >= 0 && y >= 0 && (z < 0 || z == 0 && x+y != 0) {
			t.Fatalf("Order of %s, %s and %s: %d, %d, but %d", show(a), show(b), show(c), x, y, z)
		}
		holdOrder(t, a, b, inOrder(a, b))
	}
}

// P18.2: any patterns.
func TestOrderDrawn(t *testing.T) {
	seed := uint64(1822)
	for range 300000 {
		a, b := pattern(random(&seed)), pattern(random(&seed))
		if random(&seed)%4 == 0 {
			b.Num = a.Num ^ minus
		}
		holdOrder(t, a, b, inOrder(a, b))
	}
}
