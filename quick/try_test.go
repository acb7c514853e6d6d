package quick_test

import (
	"math"
	"math/big"
	"strings"
	"testing"

	"abacus/api"
	"abacus/quick"
)

// fitting: the q with which m / 10^q has 19 digits ahead of its point.
func fitting(m *big.Rat) int {
	q := (m.Num().BitLen()-m.Denom().BitLen())*30103/100000 - 21
	for m.Cmp(power(10, q+19)) >= 0 {
		q++
	}
	return q
}

// P9.3: the document's examples of Try.
func TestTryExamples(t *testing.T) {
	for _, c := range []struct {
		d    api.Dec
		want uint64
		sure bool
	}{
		{dec(false, "90071992547409930", -1), 0, false}, {dec(false, "9007199254740993", 0), 0x4340000000000000, true}, {dec(true, "0", 0), minus, true}, {dec(false, "0", 0), 0, true}, {dec(false, "0", 1), 0, false}, {dec(false, "", 0), 0, false},
		{dec(false, "1", 309), 0, false}, {dec(false, "1", 308), 0x7fe1ccf385ebc8a0, true}, {dec(true, "25", -1), 0xc004000000000000, true},
		{dec(false, "1"+strings.Repeat("0", 29)+"1", -30), api.One, true}, {dec(false, "9007199254740993"+strings.Repeat("0", 30)+"1", -31), 0, false},
		{dec(true, "1", 309), 0, false}, {dec(true, "9", 308), api.Inf | minus, true}, {dec(true, "1", -342), minus, true}, {dec(true, "90071992547409931", -1), 0xc340000000000001, true},
	} {
		if x, sure := quick.Try(c.d); x != c.want || sure != c.sure {
			t.Errorf("Try(%v) = %016x, %v", c.d, x, sure)
		}
	}
}

// P9.3: what isn't normal, or no Dec at all, isn't told.
func TestTryRefuses(t *testing.T) {
	list := []api.Dec{
		dec(true, "", 0), dec(false, "00", 0), dec(true, "0", -1), dec(false, "0", most), dec(false, "01", 0), dec(false, "10", 0), dec(true, "010", 0), dec(false, "120", -1), dec(false, strings.Repeat("1", 25)+"0", -20), dec(false, "0"+strings.Repeat("1", 25), -20),
		dec(false, "1a", 0), dec(false, "-1", 0), dec(false, "+1", 0), dec(false, " 1", 0), dec(false, "1 ", 0), dec(false, "1.5", 0), dec(false, "1e5", 0), dec(false, "\x00", 0), dec(false, "1\x001", 0), dec(false, "\u0661", 0), dec(false, strings.Repeat("1", 30)+"x1", -20),
		dec(false, "1", most+1), dec(false, "1", -most-1), dec(false, "1", maxInt), dec(false, "1", minInt), dec(true, strings.Repeat("1", 25), maxInt), dec(true, strings.Repeat("1", 25), minInt), dec(false, "0", maxInt),
	}
	for c := range 256 {
		if c < '0' || c > '9' {
			list = append(list, dec(false, string([]byte{byte(c)}), 0), dec(false, "1"+string([]byte{byte(c)})+"1", 0), dec(false, strings.Repeat("1", 22)+string([]byte{byte(c)})+"1", -3))
		}
	}
	for _, d := range list {
		if x, sure := quick.Try(d); x != 0 || sure {
			t.Errorf("Try(%v) = %016x, %v", d, x, sure)
		}
	}
}

// P9.3: exponents that lead far outside the table, though the Dec is normal.
func TestTryFar(t *testing.T) {
	for _, digits := range []string{"1", "25", "9999999999999999999", strings.Repeat("3", 20), strings.Repeat("7", 3000)} {
		for _, exp := range []int{most, most - 1, -most, -most + 1, 309, 1000, -5000, -3500, 1 << 32, -1 << 32} {
			if x, sure := quick.Try(dec(true, digits, exp)); x != 0 || sure {
				t.Errorf("Try(-%.30s e %d) = %016x, %v", digits, exp, x, sure)
			}
		}
	}
}

// holdTry: Try against the document's words, and against the exact value where it is sure.
func holdTry(t *testing.T, d api.Dec) bool {
	t.Helper()
	want, told := try(d)
	x, sure := quick.Try(d)
	if x != want || sure != told {
		t.Fatalf("Try(%v) = %016x, %v, want %016x, %v", d, x, sure, want, told)
	}
	if !sure {
		return false
	}
	exact := double(value(d))
	if d.Neg {
		exact |= minus
	}
	if x != exact {
		t.Fatalf("Try(%v) = %016x, and it rounds to %016x", d, x, exact)
	}
	return true
}

// drawDigits: n digits, the first and the last no zero; rows of zeros and of nines come often.
func drawDigits(seed *uint64, n int) string {
	letters := [...]string{"0123456789", "0000000001", "9999999998", "0", "9"}[between(seed, 0, 4)]
	b := make([]byte, n)
	for i := range b {
		b[i] = letters[between(seed, 0, len(letters)-1)]
	}
	b[0], b[n-1] = byte(between(seed, '1', '9')), byte(between(seed, '1', '9'))
	return string(b)
}

// P9.3: Decs that are drawn: 18 to 21 digits come often.
func TestTryDrawn(t *testing.T) {
	seed := uint64(97)
	sure := 0
	for range 20000 {
		n := [...]int{between(&seed, 1, 19), between(&seed, 18, 21), between(&seed, 1, 60)}[between(&seed, 0, 2)]
		exp := [...]int{between(&seed, -400, 330), between(&seed, -26, 26), between(&seed, -n-5, -n+5)}[between(&seed, 0, 2)]
		if holdTry(t, dec(between(&seed, 0, 1) == 1, drawDigits(&seed, n), exp)) {
			sure++
		}
	}
	if sure < 15000 {
		t.Errorf("sure only of %d", sure)
	}
}

// P9.3: doubles, and middles between them, in all their digits, cut to some digits, and with a trifle more.
func TestTryAroundMiddles(t *testing.T) {
	seed := uint64(98)
	unsure := 0
	for i := range 3000 {
		x := drawDouble(&seed)
		m := middle(x)
		if i%3 == 0 {
			m = worth(x)
		}
		d := decimal(m)
		list := []api.Dec{d, dec(true, d.Digits+"1", d.Exp-1), dec(false, d.Digits+"00000001", d.Exp-8)}
		for _, n := range []int{17, 18, 19, 20, 21, 25, 40} {
			if n < len(d.Digits) {
				exp := d.Exp + len(d.Digits) - n
				list = append(list, dec(false, strings.TrimRight(d.Digits[:n-1], "0")+"1", exp), dec(true, d.Digits[:n-1]+"9", exp), dec(false, d.Digits[:n-1]+"01", exp-1), dec(false, d.Digits[:n-1]+"001", exp-2))
			}
		}
		for _, d := range list {
			if normal(d) && !holdTry(t, d) {
				unsure++
			}
		}
	}
	if unsure < 1000 {
		t.Errorf("unsure only of %d", unsure)
	}
}

// P9.3: a Dec of very many digits is told as any other, by its first 19.
func TestTryLong(t *testing.T) {
	long := strings.Repeat("123456789", 200000)
	if x, sure := quick.Try(dec(true, long, -len(long)+1)); x != minus|math.Float64bits(1.234567891234567891) || !sure {
		t.Errorf("Try of %d digits = %016x, %v", len(long), x, sure)
	}
	if x, sure := quick.Try(dec(false, long[1:]+"x", -len(long))); x != 0 || sure {
		t.Errorf("Try of %d bytes = %016x, %v", len(long), x, sure)
	}
}
