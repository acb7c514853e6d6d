package scan_test

import (
	"math/big"
	"regexp"
	"strings"
	"testing"

	"abacus/api"
	"abacus/scan"
)

const (
	most   = api.MaxExp
	maxInt = 1<<63 - 1
	minInt = -1 << 63
)

// dec: a Dec by its parts.
func dec(neg bool, digits string, exp int) api.Dec {
	return api.Dec{Neg: neg, Digits: digits, Exp: exp}
}

// random: a number from a fixed row (splitmix64), so that every run tests the same.
func random(seed *uint64) uint64 {
	*seed += 0x9e3779b97f4a7c15
	z := *seed
	z = (z ^ z>>30) * 0xbf58476d1ce4e5b9
	z = (z ^ z>>27) * 0x94d049bb133111eb
	return z ^ z>>31
}

// between: a number from low to high.
func between(seed *uint64, low int, high int) int {
	return low + int(random(seed)%uint64(high-low+1))
}

// drawText: a text of up to n bytes out of letters.
func drawText(seed *uint64, letters string, n int) string {
	b := make([]byte, between(seed, 0, n))
	for i := range b {
		b[i] = letters[between(seed, 0, len(letters)-1)]
	}
	return string(b)
}

// drawDec: a Dec that is one, with many zeros and an exponent near 0.
func drawDec(seed *uint64) api.Dec {
	digits := drawText(seed, "0000001259", 12) + string("0123456789"[between(seed, 0, 9)])
	return dec(between(seed, 0, 1) == 1, digits, between(seed, -9, 9))
}

// ten: 10^n.
func ten(n int) *big.Int {
	return new(big.Int).Exp(big.NewInt(10), big.NewInt(int64(n)), nil)
}

// worth: a Dec's value, of a small exponent.
func worth(d api.Dec) *big.Rat {
	n, ok := new(big.Int).SetString(d.Digits, 10)
	if !ok {
		panic("no digits: " + d.Digits)
	}
	if d.Neg {
		n.Neg(n)
	}
	if d.Exp < 0 {
		return new(big.Rat).SetFrac(n, ten(-d.Exp))
	}
	return new(big.Rat).SetInt(n.Mul(n, ten(d.Exp)))
}

// normal: whether d is in the normal form.
func normal(d api.Dec) bool {
	if d.Digits == "0" {
		return d.Exp == 0
	}
	return d.Digits != "" && strings.Trim(d.Digits, "0") == d.Digits && strings.Trim(d.Digits, "0123456789") == ""
}

// form: the literal at the head of a text, by the document's words.
var form = func() *regexp.Regexp {
	r := regexp.MustCompile(`^[\t\n\v\f\r ]*([+-]?(?:[0-9]+(?:\.[0-9]*)?|\.[0-9]+)(?:[eE][+-]?[0-9]+)?)`)
	r.Longest()
	return r
}()

// oracle: what Number must tell of a text whose exponents are small: the literal's value, whether its sign is -, and its end; nil if there is none.
func oracle(s string) (*big.Rat, bool, int) {
	m := form.FindStringSubmatch(s)
	if m == nil {
		return nil, false, 0
	}
	v, ok := new(big.Rat).SetString(m[1])
	if !ok {
		panic("no number: " + m[1])
	}
	return v, m[1][0] == '-', len(m[0])
}

// holdNumber: Number of s against the oracle.
func holdNumber(t *testing.T, s string) {
	t.Helper()
	v, neg, end := oracle(s)
	d, n := scan.Number(s)
	if v == nil {
		if d != (api.Dec{}) || n != 0 {
			t.Fatalf("Number(%q) = %v, %d, and there is none", s, d, n)
		}
		return
	}
	if n != end || d.Neg != neg || !normal(d) || worth(d).Cmp(v) != 0 {
		t.Fatalf("Number(%q) = %v, %d, want %v to %d", s, d, n, v, end)
	}
}

// holdWhole: Whole of s against the oracle.
func holdWhole(t *testing.T, s string) {
	t.Helper()
	v, _, end := oracle(s)
	d, ok := scan.Whole(s)
	if v == nil || strings.Trim(s[end:], "\t\n\v\f\r ") != "" {
		if ok || d != (api.Dec{}) {
			t.Fatalf("Whole(%q) = %v, %v, and it is none", s, d, ok)
		}
		return
	}
	if want, _ := scan.Number(s); !ok || d != want {
		t.Fatalf("Whole(%q) = %v, %v, want %v", s, d, ok, want)
	}
}
