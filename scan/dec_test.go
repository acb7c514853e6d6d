package scan_test

import (
	"strings"
	"testing"

	"abacus/api"
	"abacus/scan"
)

// wrong: Decs that are none.
func wrong() []api.Dec {
	list := []api.Dec{
		{}, dec(true, "", 0), dec(false, "", most),
		dec(false, "1", most+1), dec(false, "0", most+1), dec(false, "1", -most-1), dec(true, "0", -most-1), dec(false, "000", most+1), dec(false, "10", -most-1), dec(false, "100", -most-1), dec(false, "1", maxInt), dec(false, "1", minInt), dec(false, "10", maxInt), dec(false, "00", maxInt), dec(false, "0", minInt),
		dec(false, "10", most), dec(true, "100", most-1), dec(false, "0010", most), dec(false, "1000", most-2),
		dec(false, "1a", 0), dec(false, "-1", 0), dec(false, "+1", 0), dec(false, "1 ", 0), dec(false, " 1", 0), dec(false, "1.5", 0), dec(false, "1e5", 0), dec(false, "0x0", 0), dec(false, "\x00", 0), dec(false, "0\x000", 0), dec(false, "1/", 0), dec(false, ":1", 0), dec(false, "000a000", 0), dec(false, "\u0661", 0),
	}
	for c := range 256 {
		if c < '0' || c > '9' {
			list = append(list, dec(false, string([]byte{byte(c)}), 0), dec(false, "1"+string([]byte{byte(c)})+"1", 0))
		}
	}
	return list
}

// P8.3, P8.4: a Dec that is none is refused, and nothing of it is answered.
func TestWrongDecs(t *testing.T) {
	right := dec(true, "12", 3)
	for _, d := range wrong() {
		if n, e := scan.Norm(d); n != (api.Dec{}) || e != api.ErrDec {
			t.Errorf("Norm(%v) = %v, %d", d, n, e)
		}
		if s, e := scan.Text(d); s != "" || e != api.ErrDec {
			t.Errorf("Text(%v) = %q, %d", d, s, e)
		}
		for _, p := range [][2]api.Dec{{d, right}, {right, d}, {d, d}, {d, dec(false, "0", 0)}, {dec(false, "1", most), d}} {
			if n, e := scan.Cmp(p[0], p[1]); n != 0 || e != api.ErrDec {
				t.Errorf("Cmp(%v, %v) = %d, %d", p[0], p[1], n, e)
			}
		}
	}
}

// P8.3, P8.4: the document's examples of Norm and Text, and the ends of exponents.
func TestNormTextExamples(t *testing.T) {
	for _, c := range []struct {
		d    api.Dec
		want api.Dec
		text string
	}{
		{dec(false, "00120", 3), dec(false, "12", 4), "12e4"}, {dec(true, "000", 7), dec(true, "0", 0), "-0"}, {dec(true, "0", 9), dec(true, "0", 0), "-0"},
		{dec(false, "5", -1), dec(false, "5", -1), "5e-1"}, {dec(false, "17", 0), dec(false, "17", 0), "17"}, {dec(true, "1700", -2), dec(true, "17", 0), "-17"}, {dec(false, "10", -2), dec(false, "1", -1), "1e-1"}, {dec(false, "1001", 1), dec(false, "1001", 1), "1001e1"}, {dec(true, "0120", -10), dec(true, "12", -9), "-12e-9"},
		{dec(false, "00", most), dec(false, "0", 0), "0"}, {dec(true, "0", -most), dec(true, "0", 0), "-0"}, {dec(false, "0", 0), dec(false, "0", 0), "0"},
		{dec(false, "1", -most), dec(false, "1", -most), "1e-1152921504606846976"}, {dec(true, "1", most), dec(true, "1", most), "-1e1152921504606846976"}, {dec(false, "0100", most-2), dec(false, "1", most), "1e1152921504606846976"}, {dec(false, "10", -most), dec(false, "1", -most+1), "1e-1152921504606846975"}, {dec(false, "11", most), dec(false, "11", most), "11e1152921504606846976"},
	} {
		if n, e := scan.Norm(c.d); n != c.want || e != api.OK {
			t.Errorf("Norm(%v) = %v, %d, want %v", c.d, n, e, c.want)
		}
		if s, e := scan.Text(c.d); s != c.text || e != api.OK {
			t.Errorf("Text(%v) = %q, %d, want %q", c.d, s, e, c.text)
		}
	}
}

// P8.3: Norm keeps the value and the sign, and is the same for all Decs of one value and sign.
func TestNormValue(t *testing.T) {
	seed := uint64(83)
	for range 20000 {
		d := drawDec(&seed)
		n, e := scan.Norm(d)
		if e != api.OK || !normal(n) || n.Neg != d.Neg || worth(n).Cmp(worth(d)) != 0 {
			t.Fatalf("Norm(%v) = %v, %d", d, n, e)
		}
		if again, e := scan.Norm(n); again != n || e != api.OK {
			t.Fatalf("Norm(%v) = %v, %d", n, again, e)
		}
		k := between(&seed, 0, 4)
		wide := dec(d.Neg, strings.Repeat("0", k)+d.Digits+strings.Repeat("0", k), d.Exp-k)
		if same, e := scan.Norm(wide); same != n || e != api.OK {
			t.Fatalf("Norm(%v) = %v, %d, want %v", wide, same, e, n)
		}
	}
}

// P8.3: the document's examples of Cmp, and the ends, each both ways round.
func TestCmpExamples(t *testing.T) {
	long := strings.Repeat("3", 100000)
	for _, c := range []struct {
		a    api.Dec
		b    api.Dec
		want int
	}{
		{dec(false, "1", 2), dec(false, "100", 0), 0}, {dec(true, "1", 0), dec(true, "2", 0), 1}, {dec(false, "0", 5), dec(true, "0", -7), 0}, {dec(false, "1", 1000000000000), dec(false, "999", 999999999997), 1}, {dec(false, "12", 0), dec(false, "119", -1), 1},
		{dec(true, "0", 0), dec(false, "0", 0), 0}, {dec(true, "00", most), dec(false, "0", -most), 0}, {dec(false, "0", 0), dec(false, "1", -most), -1}, {dec(false, "0", most), dec(true, "1", -most), 1}, {dec(true, "0", most), dec(true, "1", most), 1}, {dec(true, "0", 0), dec(false, "1", -most), -1},
		{dec(false, "1", most), dec(false, "1", -most), 1}, {dec(true, "1", most), dec(true, "1", -most), -1}, {dec(true, "1", most), dec(false, "1", -most), -1}, {dec(false, "99", most), dec(false, "1", most), 1}, {dec(false, "10", most-1), dec(false, "1", most), 0}, {dec(false, "9", most-1), dec(false, "1", most), -1}, {dec(true, "1", 0), dec(false, "1", 0), -1}, {dec(true, "2", 0), dec(false, "1", 0), -1},
		{dec(false, "12", 0), dec(false, "121", -1), -1}, {dec(true, "12", 0), dec(true, "121", -1), 1}, {dec(false, "0012", 1), dec(false, "1200", -1), 0}, {dec(false, "10", 0), dec(false, "1", 0), 1}, {dec(false, "9", 0), dec(false, "10", 0), -1}, {dec(true, "9", 0), dec(true, "10", 0), 1},
		{dec(false, long+"4", 0), dec(false, long+"3", 0), 1}, {dec(false, long+"3", -1), dec(false, long, 0), 1}, {dec(false, long+"000", 0), dec(false, "000"+long, 3), 0},
	} {
		if n, e := scan.Cmp(c.a, c.b); n != c.want || e != api.OK {
			t.Errorf("Cmp(%.40v, %.40v) = %d, %d, want %d", c.a, c.b, n, e, c.want)
		}
		if n, e := scan.Cmp(c.b, c.a); n != -c.want || e != api.OK {
			t.Errorf("Cmp(%.40v, %.40v) = %d, %d, want %d", c.b, c.a, n, e, -c.want)
		}
	}
}

// P8.3: Cmp goes by the exact values alone; near pairs come often.
func TestCmpValue(t *testing.T) {
	seed := uint64(84)
	for range 40000 {
		a, b := drawDec(&seed), drawDec(&seed)
		if between(&seed, 0, 1) == 0 {
			k := between(&seed, 0, 3)
			b = dec(a.Neg, a.Digits+drawText(&seed, "000001", k), a.Exp)
			b.Exp -= len(b.Digits) - len(a.Digits)
		}
		want := worth(a).Cmp(worth(b))
		if n, e := scan.Cmp(a, b); n != want || e != api.OK {
			t.Fatalf("Cmp(%v, %v) = %d, %d, want %d", a, b, n, e, want)
		}
	}
}

// P8.4: what Text writes, Number reads back to the normal Dec and uses all of; beyond MaxScale the exponent is MaxScale.
func TestTextReadBack(t *testing.T) {
	seed := uint64(85)
	ends := []int{0, 1, -1, 9, 10, -10, api.MaxScale - 1, api.MaxScale, api.MaxScale + 1, -api.MaxScale + 1, -api.MaxScale, -api.MaxScale - 1, most, -most}
	for i := range 20000 {
		d := drawDec(&seed)
		if i%2 == 0 {
			d.Exp = ends[between(&seed, 0, len(ends)-1)]
		}
		want, e := scan.Norm(d)
		if e != api.OK {
			continue // the zeros at its end lead beyond MaxExp
		}
		s, e := scan.Text(d)
		if e != api.OK {
			t.Fatalf("Text(%v) = %q, %d", d, s, e)
		}
		want.Exp = max(-api.MaxScale, min(want.Exp, api.MaxScale))
		if got, n := scan.Number(s); got != want || n != len(s) {
			t.Fatalf("Number(Text(%v)) = Number(%q) = %v, %d, want %v, %d", d, s, got, n, want, len(s))
		}
		if got, ok := scan.Whole(s); got != want || !ok {
			t.Fatalf("Whole(Text(%v)) = Whole(%q) = %v, %v", d, s, got, ok)
		}
	}
}

// P8.4: a text of many digits is written too.
func TestTextLong(t *testing.T) {
	long := strings.Repeat("123456789", 2000000)
	if s, e := scan.Text(dec(true, "00"+long+"00", -5)); s != "-"+long+"e-3" || e != api.OK {
		t.Errorf("Text of %d digits: %d bytes, %d", len(long), len(s), e)
	}
}
