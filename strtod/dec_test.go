package strtod_test

import (
	"math"
	"math/big"
	"strconv"
	"strings"
	"testing"

	"abacus/api"
	"abacus/quick"
	"abacus/scan"
	"abacus/strtod"
)

// P10.1, P10.2: the document's examples.
func TestDecExamples(t *testing.T) {
	holdDec(t, dec(false, "0012", -1), 0x3ff3333333333333)
	holdDec(t, dec(true, "000", 7), minus)
	for _, d := range []api.Dec{dec(false, "", 0), dec(false, "1a", 0), dec(false, "1", most+1)} {
		refused(t, d)
	}
}

// refused: that a Dec is none, to both calls.
func refused(t *testing.T, d api.Dec) {
	t.Helper()
	if x, e := strtod.Exact(d); x != 0 || e != api.ErrDec {
		t.Errorf("Exact(%v) = %016x, %d", d, x, e)
	}
	if x, e := strtod.Double(d); x != 0 || e != api.ErrDec {
		t.Errorf("Double(%v) = %016x, %d", d, x, e)
	}
}

// P10.1, P10.2: a Dec that is none.
func TestRefused(t *testing.T) {
	list := []api.Dec{
		dec(true, "", 0), dec(false, "", most+1), dec(false, "-1", 0), dec(false, "+1", 0), dec(false, " 1", 0), dec(false, "1 ", 0), dec(false, "1.5", 0), dec(false, "1e5", 0), dec(true, "inf", 0), dec(false, "\u0661", 0),
		dec(true, "1", -most-1), dec(false, "1", maxInt), dec(true, "1", minInt), dec(false, "0", most+1), dec(false, "000", -most-1), dec(true, "0", maxInt), dec(false, "00", minInt), dec(false, "1"+zeros(1000), maxInt),
		dec(false, "10", most), dec(true, "1000", most-2), dec(false, "0"+zeros(5)+"7"+zeros(100), most-99), dec(false, strings.Repeat("1", 2000)+"x", 0), dec(false, zeros(2000)+"x", 0), dec(false, "x"+zeros(2000), -2000),
	}
	for c := range 256 {
		if c < '0' || c > '9' {
			b := string([]byte{byte(c)})
			list = append(list, dec(false, b, 0), dec(true, b+"1", 0), dec(false, "1"+b, 0), dec(false, strings.Repeat("1", 30)+b+"1", -20))
		}
	}
	for _, d := range list {
		refused(t, d)
	}
}

// P10.1, P10.2: exponents at the edges of what is taken, and far outside of what a double holds.
func TestFar(t *testing.T) {
	for _, c := range []struct {
		d    api.Dec
		want uint64
	}{
		{dec(false, "1", most), api.Inf}, {dec(false, "7", -most), 0}, {dec(false, "1000", most-3), api.Inf}, {dec(false, zeros(50)+"1", most), api.Inf}, {dec(false, zeros(50)+"1", -most), 0}, {dec(false, "9"+zeros(3000), -most), 0},
		{dec(false, zeros(900), most), 0}, {dec(false, "00", -most), 0}, {dec(false, "0", 1), 0}, {dec(false, "0", -1), 0}, {dec(false, "0", 0), 0},
		{dec(false, strings.Repeat("3", 3000), most), api.Inf}, {dec(false, strings.Repeat("3", 3000), -most), 0}, {dec(false, "1", 1<<31), api.Inf}, {dec(false, "1", -1<<31), 0}, {dec(false, "1", 1<<32), api.Inf}, {dec(false, "1", -1<<32), 0},
	} {
		holdDec(t, c.d, c.want)
	}
}

// P10.1, P10.2: first digits from 10^-410 to 10^410, so that the ends of the doubles, of the table and of what is settled without any power are among them.
func TestEveryPlace(t *testing.T) {
	for _, digits := range []string{"1", "17976931348623157", "17976931348623158", "17976931348623159", "24703282292062327", "24703282292062328", "4940656458412465", "9", strings.Repeat("9", 25), strings.Repeat("9", 800), "1" + zeros(800) + "1"} {
		for place := -410; place <= 410; place++ {
			d := dec(false, digits, place-len(digits)+1)
			holdDec(t, d, nearest(d))
		}
	}
}

// around: a middle's digits, and numbers that differ from it by a trifle: -1 those below it, 1 those above.
func around(d api.Dec) (list []api.Dec, side []int) {
	if d.Exp > 0 {
		// One more in the last place would be no trifle.
		d = dec(false, d.Digits+zeros(d.Exp), 0)
	}
	n, _ := new(big.Int).SetString(d.Digits, 10)
	less := n.Sub(n, big.NewInt(1)).String()
	add := func(digits string, more int, s int) {
		list, side = append(list, dec(false, digits, d.Exp-more)), append(side, s)
	}
	add(d.Digits, 0, 0)
	add(zeros(3)+d.Digits+zeros(900), 900, 0)
	for _, k := range []int{1, 2, 20, 700, 769 - len(d.Digits), 1500} {
		if k > 0 {
			add(d.Digits+zeros(k-1)+"1", k, 1)
			add(zeros(k)+d.Digits+zeros(k-1)+"5"+zeros(k), 2*k, 1)
			add(less+strings.Repeat("9", k), k, -1)
			add(less+strings.Repeat("9", k)+"40", k+2, -1)
		}
	}
	return list, side
}

// holdMiddle: the middle above a finite double, and what lies near to it.
func holdMiddle(t *testing.T, x uint64) {
	t.Helper()
	list, side := around(decimal(middle(x)))
	for i, d := range list {
		want := x
		if side[i] > 0 || side[i] == 0 && x&1 == 1 {
			want++
		}
		holdDec(t, d, want)
	}
}

// P10.1, P10.2: middles between doubles go to the even mantissa, and what differs by a trifle goes to its own side.
func TestMiddles(t *testing.T) {
	for _, x := range []uint64{0, 1, 2, 3, 1<<52 - 2, 1<<52 - 1, 1 << 52, 1<<52 + 1, 1<<53 - 2, 1<<53 - 1, 1 << 53, api.One - 1, api.One, 0x433fffffffffffff, 0x4340000000000000, 0x4340000000000001, api.Most - 1, api.Most} {
		holdMiddle(t, x)
	}
	seed := uint64(101)
	for range 1500 {
		holdMiddle(t, drawDouble(&seed))
	}
}

// P10.1: the middles that have the most figures of all: the last of them counts, and what is behind it too.
func TestMostFigures(t *testing.T) {
	count := 0
	for x := uint64(1<<53 - 200); x < 1<<53; x++ {
		d := decimal(middle(x))
		if len(d.Digits) != 768 {
			t.Fatalf("the middle above %016x has %d figures", x, len(d.Digits))
		}
		last := d.Digits[767]
		for _, c := range []struct {
			digits string
			exp    int
			above  bool
		}{
			{d.Digits, d.Exp, x&1 == 1}, {d.Digits + "1", d.Exp - 1, true}, {d.Digits + "01", d.Exp - 2, true}, {d.Digits[:767] + string([]byte{last + 1}), d.Exp, true}, {d.Digits[:767] + string([]byte{last - 1}), d.Exp, false}, {d.Digits[:767] + string([]byte{last - 1}) + strings.Repeat("9", 5000), d.Exp - 5000, false}, {d.Digits[:767], d.Exp + 1, false}, {d.Digits + zeros(5000) + "1", d.Exp - 5001, true},
		} {
			want := x
			if c.above {
				want++
			}
			holdDec(t, dec(false, c.digits, c.exp), want)
			count++
		}
	}
	if count != 1600 {
		t.Errorf("held %d", count)
	}
}

// P10.1: a double's own digits, all of them, are that double.
func TestOwnDigits(t *testing.T) {
	seed := uint64(102)
	for range 2000 {
		x := drawDouble(&seed)
		holdDec(t, decimal(worth(x)), x)
	}
	holdDec(t, decimal(worth(api.Most)), api.Most)
	holdDec(t, decimal(power(2, 1024)), api.Inf)
	holdDec(t, decimal(power(2, -1075)), 0)
	holdDec(t, decimal(power(2, -1076)), 0)
}

// P10.1, P10.2: Decs that are drawn, zeros at their front and end too, against an exact fraction.
func TestDecDrawn(t *testing.T) {
	seed := uint64(103)
	sure := 0
	for range 12000 {
		size := [...]int{between(&seed, 1, 19), between(&seed, 17, 21), between(&seed, 1, 60), between(&seed, 700, 900)}[between(&seed, 0, 3)]
		letters := [...]string{"0123456789", "0000000001", "9999999998", "0", "9"}[between(&seed, 0, 4)]
		digits := drawText(&seed, "0", 0, 3) + drawText(&seed, letters, size, size) + drawText(&seed, "0", 0, 3)
		exp := [...]int{between(&seed, -450, 330) - size, between(&seed, -26, 26), between(&seed, -size-5, -size+5)}[between(&seed, 0, 2)]
		d := dec(false, digits, exp)
		holdDec(t, d, nearest(d))
		n, _ := scan.Norm(d)
		if _, told := quick.Try(n); told {
			sure++
		}
	}
	if sure < 1000 || sure > 11000 {
		t.Errorf("the quick road told %d of 12000", sure)
	}
}

// P10.1, P10.2: 17 figures of a double read back to it, and so do those that the library writes.
func TestReadBack(t *testing.T) {
	seed := uint64(104)
	for range 20000 {
		x := drawDouble(&seed)
		for _, prec := range []int{-1, 16} {
			s := strconv.FormatFloat(math.Float64frombits(x), 'e', prec, 64)
			if d, used := strtod.Parse(s); d != x || used != len(s) {
				t.Fatalf("Parse(%q) = %016x, %d, want %016x", s, d, used, x)
			}
		}
	}
}

// P10.1, P10.2: any raw Dec: a double, or ErrDec, and both calls alike.
func TestRaw(t *testing.T) {
	seed := uint64(105)
	for range 40000 {
		digits := drawText(&seed, "00000123456789", 0, 12) + drawText(&seed, "x0", 0, 1)
		exp := [...]int{between(&seed, -20, 20), most + between(&seed, -9, 9), -most + between(&seed, -9, 9), int(random(&seed)), maxInt, minInt}[between(&seed, 0, 5)]
		d := dec(between(&seed, 0, 1) == 1, digits, exp)
		if !isDec(d) {
			refused(t, d)
			continue
		}
		holdDec(t, d, nearest(d))
	}
}
