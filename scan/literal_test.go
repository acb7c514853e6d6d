package scan_test

import (
	"strings"
	"testing"

	"abacus/api"
	"abacus/scan"
)

// P8.1: the six blanks, and no other byte.
func TestBlank(t *testing.T) {
	for c := range 256 {
		want := c == 9 || c == 10 || c == 11 || c == 12 || c == 13 || c == 32
		if scan.Blank(byte(c)) != want {
			t.Errorf("Blank(%#x) = %v", c, !want)
		}
	}
}

// P8.1: the document's examples of literals.
func TestNumberExamples(t *testing.T) {
	for _, c := range []struct {
		s string
		d api.Dec
		n int
	}{
		{"12", dec(false, "12", 0), 2}, {"  -1.50e3,", dec(true, "15", 2), 9}, {"1200", dec(false, "12", 2), 4},
		{".5", dec(false, "5", -1), 2}, {"5.", dec(false, "5", 0), 2}, {"-0.00", dec(true, "0", 0), 5}, {"007", dec(false, "7", 0), 3},
		{"1e400x", dec(false, "1", 400), 5}, {"1e", dec(false, "1", 0), 1}, {"1e-", dec(false, "1", 0), 1}, {"1e+", dec(false, "1", 0), 1},
		{"1e5x", dec(false, "1", 5), 3}, {"1.5.2", dec(false, "15", -1), 3}, {"0x10", dec(false, "0", 0), 1}, {"0x1f", dec(false, "0", 0), 1},
		{"1", dec(false, "1", 0), 1}, {"1.", dec(false, "1", 0), 2}, {"-1.5e+3", dec(true, "15", 2), 7}, {"+00.10E-07", dec(false, "1", -8), 10}, {"+1.e1", dec(false, "1", 1), 5},
		{"1e99999999999999999999", dec(false, "1", 1000000000000000), 22},
		{"0.1e-99999999999999999999", dec(false, "1", -1000000000000001), 25},
		{"10e1000000000000000", dec(false, "1", 1000000000000001), 19},
	} {
		if d, n := scan.Number(c.s); d != c.d || n != c.n {
			t.Errorf("Number(%q) = %v, %d, want %v, %d", c.s, d, n, c.d, c.n)
		}
	}
}

// P8.1: where no literal begins, the zero Dec and 0.
func TestNumberNone(t *testing.T) {
	for _, s := range []string{
		"", ".", "+", "-", "- 1", "+ 1", "e5", "E5", ".e5", "-.e1", "+.e1", "+.", "inf", "-inf", "nan", "+nan", "infinity", "   ", " \t.", "--1", "+-1", "-+1", "..5", "x1", ",1",
		"\x001", "\x081", "\x0e1", "\x1f1", "\x211", "\x851", "\xa01", "\xc2\xa01", "\u20031", "/", ":", "\xb1", "\uff11", "\u0661",
	} {
		if d, n := scan.Number(s); d != (api.Dec{}) || n != 0 {
			t.Errorf("Number(%q) = %v, %d", s, d, n)
		}
		if d, ok := scan.Whole(s); d != (api.Dec{}) || ok {
			t.Errorf("Whole(%q) = %v, %v", s, d, ok)
		}
	}
}

// P8.1: a written exponent counts up to MaxScale, either way; the digits behind the point and the zeros come on top.
func TestNumberScale(t *testing.T) {
	const scale = api.MaxScale
	for _, c := range []struct {
		s   string
		exp int
	}{
		{"1e999999999999999", scale - 1}, {"1e1000000000000000", scale}, {"1e1000000000000001", scale}, {"1e1000000000000009", scale}, {"1e9999999999999999", scale}, {"1e10000000000000000", scale},
		{"1e-999999999999999", 1 - scale}, {"1e-1000000000000000", -scale}, {"1e-1000000000000001", -scale}, {"1E-9999999999999999", -scale},
		{"1e9223372036854775807", scale}, {"1e9223372036854775808", scale}, {"1e18446744073709551616", scale}, {"1e18446744073709551617", scale}, {"1e-18446744073709551617", -scale},
		{"1e0000000000000000000000000000012", 12}, {"1e-0000000000000000000000000000012", -12}, {"1e+00", 0}, {"1e-0", 0}, {"1e" + strings.Repeat("0", 5000) + "7", 7}, {"1e-" + strings.Repeat("9", 5000), -scale},
		{"1000e+99999999999999999999", scale + 3}, {".001e-99999999999999999999", -scale - 3}, {"100.000e1000000000000001", scale + 2},
	} {
		if d, n := scan.Number(c.s); d != dec(false, "1", c.exp) || n != len(c.s) {
			t.Errorf("Number(%.40q) = %v, %d, want 1 %d, %d", c.s, d, n, c.exp, len(c.s))
		}
	}
	for _, s := range []string{"0e99999999999999999999", ".0e-99999999999999999999", "0000.000e5"} {
		if d, n := scan.Number(s); d != dec(false, "0", 0) || n != len(s) {
			t.Errorf("Number(%q) = %v, %d", s, d, n)
		}
	}
}

// P8.1, P8.2: every short text of the letters that the states ask for.
func TestShortTexts(t *testing.T) {
	const letters = "+-.07eE x"
	texts := []string{""}
	for range 5 {
		var longer []string
		for _, s := range texts {
			for _, c := range letters {
				longer = append(longer, s+string(c))
			}
		}
		for _, s := range longer {
			holdNumber(t, s)
			holdWhole(t, s)
		}
		texts = longer
	}
}

// P8.1, P8.2: longer texts, blanks of all kinds ahead and behind.
func TestDrawnTexts(t *testing.T) {
	seed := uint64(81)
	for range 60000 {
		s := drawText(&seed, "\t\n\v\f\r ", 3) + drawText(&seed, "+-", 1) + drawText(&seed, "0000123456789", 14) + drawText(&seed, ".", 1) + drawText(&seed, "0000123456789", 14)
		s += drawText(&seed, "eE", 1) + drawText(&seed, "+-", 1) + drawText(&seed, "0123", 2) + drawText(&seed, "\t\n\v\f\r ", 3) + drawText(&seed, "x.e-5\x00\x0e\x08\x1f", 1)
		holdNumber(t, s)
		holdWhole(t, s)
	}
}

// P8.1: any byte behind a literal ends it, and any byte ahead of it but a blank, a sign, a point or a digit hides it.
func TestEveryByte(t *testing.T) {
	for c := range 256 {
		b := string([]byte{byte(c)})
		for _, s := range []string{b, b + "7", "7" + b, "7" + b + "7", "7." + b + "7", ".7" + b, "7e" + b + "7", "7e7" + b, "7e7" + b + "7", "+" + b + "7", " " + b + "7", "." + b + "7"} {
			holdNumber(t, s)
			holdWhole(t, s)
		}
	}
}

// P8.2: the document's examples, and faults on either side.
func TestWholeExamples(t *testing.T) {
	for _, c := range []struct {
		s  string
		d  api.Dec
		ok bool
	}{
		{" 12\n", dec(false, "12", 0), true}, {"1e5 ", dec(false, "1", 5), true}, {"\t\n\v\f\r -1.50e3\t\n\v\f\r ", dec(true, "15", 2), true}, {"-0", dec(true, "0", 0), true}, {"+.0", dec(false, "0", 0), true}, {"5.", dec(false, "5", 0), true},
		{"12 13", api.Dec{}, false}, {"", api.Dec{}, false}, {"0x1f", api.Dec{}, false}, {"1e", api.Dec{}, false}, {"1e+ ", api.Dec{}, false}, {"1 e5", api.Dec{}, false}, {"- 1", api.Dec{}, false}, {"1\x00", api.Dec{}, false}, {"1 \x00", api.Dec{}, false}, {"1 .", api.Dec{}, false}, {"1\xa0", api.Dec{}, false}, {"1.5.2", api.Dec{}, false}, {" \t ", api.Dec{}, false}, {"9a", api.Dec{}, false}, {"1 +", api.Dec{}, false},
	} {
		if d, ok := scan.Whole(c.s); d != c.d || ok != c.ok {
			t.Errorf("Whole(%q) = %v, %v, want %v, %v", c.s, d, ok, c.d, c.ok)
		}
	}
}

// P8.1, P8.2: texts of any length, in work that is linear in them.
func TestLongTexts(t *testing.T) {
	const n = 1 << 21
	zeros, sevens, spaces := strings.Repeat("0", n), strings.Repeat("7", n), strings.Repeat(" \t", n/2)
	for _, c := range []struct {
		s string
		d api.Dec
	}{
		{spaces + "-" + zeros + sevens + zeros + "." + zeros + spaces, dec(true, sevens, n)},
		{zeros + "." + zeros + sevens + zeros, dec(false, sevens, -2*n)},
		{sevens + "." + zeros + "1e" + sevens, dec(false, sevens+zeros+"1", api.MaxScale-n-1)},
		{"." + zeros + "e-" + sevens, dec(false, "0", 0)},
		{zeros, dec(false, "0", 0)},
		{"7e" + zeros + "7", dec(false, "7", 7)},
	} {
		end := len(strings.TrimRight(c.s, " \t"))
		if d, got := scan.Number(c.s); d != c.d || got != end {
			t.Errorf("Number of %d bytes (%.9q..) ends at %d, want %d; Exp %d, want %d", len(c.s), c.s, got, end, d.Exp, c.d.Exp)
		}
		if d, ok := scan.Whole(c.s); d != c.d || !ok {
			t.Errorf("Whole of %d bytes (%.9q..): %v", len(c.s), c.s, ok)
		}
		if d, ok := scan.Whole(c.s + "x"); d != (api.Dec{}) || ok {
			t.Errorf("Whole of %d bytes and an x (%.9q..): %v", len(c.s), c.s, ok)
		}
	}
	if d, end := scan.Number(spaces); d != (api.Dec{}) || end != 0 {
		t.Errorf("Number of blanks: %v, %d", d, end)
	}
	if d, end := scan.Number("1" + spaces + sevens); d != dec(false, "1", 0) || end != 1 {
		t.Errorf("Number of a short literal: %v, %d", d, end)
	}
}
