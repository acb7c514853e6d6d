package shortest_test

import (
	"math"
	"strconv"
	"strings"
	"testing"

	"abacus/api"
	"abacus/shortest"
)

// formatUint: u in base 10.
func formatUint(u uint64) string { return strconv.FormatUint(u, 10) }

// read: the double that the library reads of a Dec without a sign; the infinity if it is too great.
func read(x api.Dec) uint64 {
	f, _ := strconv.ParseFloat(x.Digits+"e"+strconv.Itoa(x.Exp), 64)
	return math.Float64bits(f)
}

// P12.4: the document's examples.
func TestTextExamples(t *testing.T) {
	for _, c := range []struct {
		d uint64
		s string
	}{
		{0, "0"}, {minus, "-0"}, {0x3fb999999999999a, "0.1"}, {0x4415af1d78b58c40, "100000000000000000000"}, {0x444b1ae4d6e2ef50, "1e+21"}, {0x3eb0c6f7a0b5ed8d, "0.000001"}, {0x3e7ad7f29abcaf48, "1e-07"}, {0x405edd2f1a9fbe77, "123.456"}, {1, "5e-324"}, {0xfff8000000000000, "-nan"}, {0xfff0000000000000, "-inf"}, {0x4310000000000001, "1125899906842624.2"},
		{api.NaN, "nan"}, {api.Inf, "inf"}, {api.Inf + 1, "nan"}, {1<<64 - 1, "-nan"}, {minus | api.Inf + 1, "-nan"}, {minus | 1, "-5e-324"}, {api.Most, "1.7976931348623157e+308"},
	} {
		if s := shortest.Text(c.d); s != c.s {
			t.Errorf("Text(%016x) = %q, want %q", c.d, s, c.s)
		}
	}
}

// layout: the text of a finite d, not below 0, as the library lays out its shortest digits.
func layout(d uint64) string {
	f := math.Float64frombits(d)
	long := strconv.FormatFloat(f, 'e', -1, 64)
	exp, _ := strconv.Atoi(long[strings.IndexByte(long, 'e')+1:])
	if f == 0 || -7 < exp && exp < 21 {
		return strconv.FormatFloat(f, 'f', -1, 64)
	}
	return long
}

// holdText: Text of d, not below 0, with either sign.
func holdText(t *testing.T, d uint64) {
	t.Helper()
	want := layout(d)
	if s := shortest.Text(d); s != want {
		t.Fatalf("Text(%016x) = %q, want %q", d, s, want)
	}
	if s := shortest.Text(d | minus); s != "-"+want {
		t.Fatalf("Text(%016x) = %q, want %q", d|minus, s, "-"+want)
	}
}

// P12.4: about every place of the point at which the form changes, with one digit and with many.
func TestTextForms(t *testing.T) {
	for k := -12; k <= 26; k++ {
		for _, m := range []float64{1, 1.5, 9, 9.9, 1.25e0, 1.2345678901234567, 9.999999999999998, 2.2, 7} {
			d := math.Float64bits(m * math.Pow10(k))
			for i := -2; i <= 2; i++ {
				holdText(t, d+uint64(i))
			}
		}
	}
}

// P12.4: edges, every power of ten, and doubles that are drawn.
func TestTextDrawn(t *testing.T) {
	for _, d := range edges() {
		holdText(t, d)
	}
	for k := -323; k <= 308; k++ {
		holdText(t, math.Float64bits(math.Pow10(k)))
	}
	seed := uint64(127)
	for range 20000 {
		holdText(t, drawDouble(&seed))
	}
}
