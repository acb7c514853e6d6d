package shortest_test

import (
	"math"
	"strings"
	"testing"

	"abacus/api"
	"abacus/shortest"
)

// P12.3: the document's examples.
func TestBoundsExamples(t *testing.T) {
	for _, c := range []struct {
		d      uint64
		lo     api.Dec
		hi     api.Dec
		closed bool
	}{
		{api.One, dec(false, "999999999999999944488848768742172978818416595458984375", -54), dec(false, "100000000000000011102230246251565404236316680908203125", -53), true},
		{0x4340000000000001, dec(false, "9007199254740993", 0), dec(false, "9007199254740995", 0), false},
		{0xc340000000000001, dec(false, "9007199254740993", 0), dec(false, "9007199254740995", 0), false},
	} {
		if lo, hi, closed, e := shortest.Bounds(c.d); lo != c.lo || hi != c.hi || closed != c.closed || e != api.OK {
			t.Errorf("Bounds(%016x) = %v, %v, %v, %d", c.d, lo, hi, closed, e)
		}
	}
	half := decimal(power(2, -1075))
	for _, d := range []uint64{0, minus} {
		if lo, hi, closed, e := shortest.Bounds(d); lo != dec(false, "0", 0) || hi != half || !closed || e != api.OK {
			t.Errorf("Bounds(%016x) = %v, %v, %v, %d", d, lo, hi, closed, e)
		}
	}
	end := power(2, 1024)
	end.Sub(end, power(2, 970))
	if _, hi, closed, e := shortest.Bounds(api.Most); hi != decimal(end) || closed || e != api.OK {
		t.Errorf("Bounds of the greatest: %v, %v, %d", hi, closed, e)
	}
}

// P12.3: the document's examples.
func TestHoldsExamples(t *testing.T) {
	for _, c := range []struct {
		x  api.Dec
		d  uint64
		ok bool
		e  api.Errno
	}{
		{dec(false, "9007199254740993", 0), 0x4340000000000000, true, api.OK}, {dec(false, "9007199254740993", 0), 0x4340000000000001, false, api.OK}, {dec(false, "1", -400), 0, true, api.OK}, {dec(true, "1", -400), 0, false, api.OK}, {dec(true, "1", -400), minus, true, api.OK}, {dec(true, "00", 7), minus, true, api.OK}, {dec(true, "00", 7), 0, false, api.OK}, {dec(false, "1", 1000000000000), api.Most, false, api.OK}, {dec(false, "", 0), api.NaN, false, api.ErrDec}, {dec(false, "1", 0), api.NaN, false, api.ErrFinite},
	} {
		if ok, e := shortest.Holds(c.x, c.d); ok != c.ok || e != c.e {
			t.Errorf("Holds(%v, %016x) = %v, %d", c.x, c.d, ok, e)
		}
	}
}

// P12.3: what is no Dec is refused, ahead of what is no finite double; what is one only just is taken.
func TestHoldsWrong(t *testing.T) {
	wrong := []api.Dec{{}, {Neg: true}, {Exp: 3}, {Digits: "1a"}, {Digits: "a1"}, {Digits: "-1"}, {Digits: "+1"}, {Digits: "1.5"}, {Digits: " 1"}, {Digits: "1 "}, {Digits: "1\x00"}, {Digits: "/"}, {Digits: ":"}, {Digits: "\xff"}, {Digits: "1e5"},
		{Digits: "1", Exp: most + 1}, {Digits: "1", Exp: -most - 1}, {Digits: "0", Exp: most + 1}, {Digits: "0", Exp: -most - 1}, {Digits: "10", Exp: most}, {Digits: "1", Exp: minInt}, {Digits: "1", Exp: maxInt}, {Digits: "1000", Exp: maxInt}, {Digits: "000", Exp: minInt}}
	for _, x := range wrong {
		for _, d := range []uint64{0, 1, api.One, api.Most, minus, api.Inf, api.NaN, 1<<64 - 1} {
			if ok, e := shortest.Holds(x, d); ok || e != api.ErrDec {
				t.Errorf("Holds(%v, %016x) = %v, %d", x, d, ok, e)
			}
		}
	}
	for _, x := range []api.Dec{{Digits: "1", Exp: most}, {Digits: "1", Exp: -most}, {Digits: "0", Exp: most}, {Digits: "10", Exp: -most}, {Digits: "00", Exp: most}, {Digits: "010", Exp: most - 1}} {
		for _, d := range []uint64{api.Inf, api.NaN, minus | api.Inf, 1<<64 - 1} {
			if ok, e := shortest.Holds(x, d); ok || e != api.ErrFinite {
				t.Errorf("Holds(%v, %016x) = %v, %d", x, d, ok, e)
			}
		}
		for _, d := range []uint64{0, 1, api.One, api.Most} {
			small := strings.Trim(x.Digits, "0") == "" || x.Exp < 0
			holdHolds(t, x, d, small && d == 0)
			holdHolds(t, x, d|minus, small && d == 0)
		}
	}
}

// P12.3: edges and their bounds.
func TestBoundsEdges(t *testing.T) {
	for _, d := range edges() {
		holdBounds(t, d)
	}
}

// P12.3: doubles that are drawn, and their bounds.
func TestBoundsDrawn(t *testing.T) {
	seed := uint64(125)
	for range 3000 {
		holdBounds(t, drawDouble(&seed))
	}
}

// P12.3: decimals that are drawn, with zeros about them, read back as what the library reads, and not as its neighbours.
func TestHoldsDrawn(t *testing.T) {
	seed := uint64(126)
	for range 6000 {
		digits := strings.TrimLeft(formatUint(random(&seed)>>between(&seed, 0, 60))+formatUint(random(&seed)>>between(&seed, 0, 60)), "0") + "1"
		x := dec(false, digits, between(&seed, -360, 310)-len(digits))
		d := read(x)
		x.Digits, x.Exp = zeros(between(&seed, 0, 3))+x.Digits+zeros(3), x.Exp-3
		if d != api.Inf {
			holdHolds(t, x, d, true)
			holdHolds(t, x, d|minus, true)
		}
		if d > 0 {
			holdHolds(t, x, d-1, false)
		}
		if d < api.Most {
			holdHolds(t, x, d+1, false)
		}
	}
}

// P12.3: what lies at either end: nothing, the least double, the greatest one, and where infinity begins.
func TestHoldsEnds(t *testing.T) {
	for _, c := range []struct {
		x  api.Dec
		d  uint64
		ok bool
	}{
		{dec(false, "0", 0), 0, true}, {dec(false, "000", -most), 0, true}, {dec(false, "0", most), 0, true}, {dec(false, "0", 0), 1, false}, {dec(false, "0", 0), api.Most, false},
		{dec(false, "1", -most), 0, true}, {dec(false, "1", -most), 1, false}, {dec(false, "247", -326), 0, true}, {dec(false, "247", -326), 1, false}, {dec(false, "248", -326), 0, false}, {dec(false, "248", -326), 1, true}, {dec(false, "74", -325), 1, true}, {dec(false, "75", -325), 1, false}, {dec(false, "75", -325), 2, true},
		{dec(false, "17976931348623158", 292), api.Most, true}, {dec(false, "17976931348623159", 292), api.Most, false}, {dec(false, "1", 309), api.Most, false}, {dec(false, "1", most), api.Most, false}, {dec(false, "1", most), 0, false}, {dec(false, "1", 308), api.Most, false}, {dec(false, "1", 308), math.Float64bits(1e308), true},
	} {
		holdHolds(t, c.x, c.d, c.ok)
		holdHolds(t, c.x, c.d|minus, c.ok)
	}
}

// P12.3: a decimal of any length: what decides may stand at its very end, and zeros at either end may be many.
func TestHoldsLong(t *testing.T) {
	const long = 1 << 20
	for _, d := range []uint64{0, 1, 3, api.One, api.One + 1, 0x4340000000000001, api.Most, 1<<53 - 1} {
		hi := decimal(middle(d))
		holdHolds(t, dec(false, hi.Digits+zeros(long), hi.Exp-long), d, d%2 == 0)
		holdHolds(t, dec(false, hi.Digits+zeros(long)+"1", hi.Exp-long-1), d, false)
		holdHolds(t, dec(false, zeros(long)+hi.Digits, hi.Exp), d, d%2 == 0)
		exact := decimal(worth(d))
		holdHolds(t, dec(false, zeros(long)+exact.Digits+zeros(long), exact.Exp-long), d, true)
	}
	holdHolds(t, dec(false, "1"+zeros(long), -long), api.One, true)
	holdHolds(t, dec(false, strings.Repeat("9", long), -long), api.One, true)
	holdHolds(t, dec(false, strings.Repeat("9", long), 0), api.Most, false)
	holdHolds(t, dec(false, strings.Repeat("9", long), -2*long), 0, true)
}
