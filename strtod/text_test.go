package strtod_test

import (
	"math"
	"strconv"
	"strings"
	"sync"
	"testing"

	"abacus/api"
	"abacus/strtod"
)

// P10.3: the document's examples of Parse.
func TestParseExamples(t *testing.T) {
	for _, c := range []struct {
		s    string
		want uint64
		used int
	}{
		{"3.25xyz", 0x400a000000000000, 4}, {"  -1e2 ", 0xc059000000000000, 6}, {"abc", 0, 0}, {"-0", minus, 2}, {"0x10", 0, 1},
		{"1e", api.One, 1}, {"1e+", api.One, 1}, {".5.", 0x3fe0000000000000, 2}, {".", 0, 0},
		{"0.1", 0x3fb999999999999a, 3}, {"9007199254740993", 0x4340000000000000, 16}, {"9007199254740993.00000000000000000000000000001", 0x4340000000000001, 46},
		{"1.7976931348623157e308", api.Most, 22}, {"1.7976931348623159e308", api.Inf, 22}, {"1e999999999999999999999", api.Inf, 23},
		{"4.9e-324", 1, 8}, {"2e-324", 0, 6}, {"3e-324", 1, 6}, {"-1e-400", minus, 7},
	} {
		if x, used := strtod.Parse(c.s); x != c.want || used != c.used {
			t.Errorf("Parse(%q) = %016x, %d", c.s, x, used)
		}
	}
}

// P10.3: the document's examples of Whole, and faults on either side.
func TestWholeExamples(t *testing.T) {
	for _, c := range []struct {
		s    string
		want uint64
		ok   bool
	}{
		{" 1e3\n", 0x408f400000000000, true}, {"1e3x", 0, false}, {"", 0, false}, {"0x1", 0, false},
		{"\t\n\v\f\r -.5e+1\t\n\v\f\r ", 0xc014000000000000, true}, {"-0", minus, true}, {"+0.", 0, true}, {"1e309", api.Inf, true}, {"-1e309 ", api.Inf | minus, true}, {"-1e-999", minus, true},
		{"1 2", 0, false}, {"- 1", 0, false}, {"1e", 0, false}, {"1e+ ", 0, false}, {"inf", 0, false}, {"nan", 0, false}, {" ", 0, false}, {"1\x00", 0, false}, {"\u00a01", 0, false}, {"1_000", 0, false}, {"1e309x", 0, false},
	} {
		if x, ok := strtod.Whole(c.s); x != c.want || ok != c.ok {
			t.Errorf("Whole(%q) = %016x, %v", c.s, x, ok)
		}
	}
}

// P10.4: the document's examples of Road, and one of each road at its edges.
func TestRoadExamples(t *testing.T) {
	for _, c := range []struct {
		s    string
		want int
	}{
		{"12", 1}, {"x", 0}, {"1e309", 2}, {"9007199254740993.0000000000000000000000000000001", 2},
		{"", 0}, {" ", 0}, {".", 0}, {"-", 0}, {"-0", 1}, {"0e999", 1}, {"1e308", 1}, {"-1e309x", 2}, {"1e-342", 1}, {"1e-343", 2}, {"90071992547409930e-1", 1}, {"9007199254740993", 1}, {" 00120.0e1 ", 1}, {"1e999999999999999999999", 2},
	} {
		if r := strtod.Road(c.s); r != c.want {
			t.Errorf("Road(%q) = %d, want %d", c.s, r, c.want)
		}
	}
}

// P10.3, P10.4: every short text of the letters that a literal has.
func TestShortTexts(t *testing.T) {
	const letters = "+-.079eE x"
	texts := []string{""}
	holdText(t, "")
	for range 4 {
		var longer []string
		for _, s := range texts {
			for _, c := range letters {
				longer = append(longer, s+string(c))
				holdText(t, s+string(c))
			}
		}
		texts = longer
	}
}

// P10.3, P10.4: texts that are drawn, with blanks and other bytes about them; each road is met.
func TestTextsDrawn(t *testing.T) {
	seed := uint64(106)
	var met [3]int
	for range 20000 {
		s := drawText(&seed, "\t\n\v\f\r x", 0, 2) + drawText(&seed, "+-", 0, 1) + drawText(&seed, "0000123456789", 0, 24) + drawText(&seed, ".", 0, 1) + drawText(&seed, "0000123456789", 0, 24)
		s += drawText(&seed, "eE", 0, 1) + drawText(&seed, "+-", 0, 1) + drawText(&seed, "01234", 0, 3) + drawText(&seed, "\t\n\v\f\r ", 0, 2) + drawText(&seed, "x.e-5\x00\xff", 0, 1)
		met[holdText(t, s)]++
	}
	for r, n := range met {
		if n < 100 {
			t.Errorf("road %d was met only %d times", r, n)
		}
	}
}

// P10.3: literals against the library's own reader.
func TestLibrary(t *testing.T) {
	seed := uint64(107)
	for range 100000 {
		s := drawText(&seed, "+-", 0, 1) + drawText(&seed, "0123456789", 1, 12) + "." + drawText(&seed, "0123456789", 0, 12) + "e" + strconv.Itoa(between(&seed, -350, 330))
		f, _ := strconv.ParseFloat(s, 64)
		if x, used := strtod.Parse(s); x != math.Float64bits(f) || used != len(s) {
			t.Fatalf("Parse(%q) = %016x, %d, want %016x", s, x, used, math.Float64bits(f))
		}
	}
}

// P10.3, P10.1: texts of any length: far more digits than a natural of MaxLimbs limbs has.
func TestLongTexts(t *testing.T) {
	const n = 1 << 21
	none, nines, spaces := zeros(n), strings.Repeat("9", n), strings.Repeat(" \t", n/2)
	size := strconv.Itoa(n)
	for _, c := range []struct {
		s    string
		want uint64
		way  int
	}{
		{none + "12", 0x4028000000000000, 1}, {spaces + "-" + none + "12", 0xc028000000000000, 1}, {"1" + none + "e-" + size, api.One, 1}, {"." + none + "1e" + strconv.Itoa(n+1), api.One, 1}, {none, 0, 1}, {"-." + none, minus, 1},
		{nines, api.Inf, 2}, {"-" + nines + "e-" + size, api.One | minus, 1}, {"." + none + nines, 0, 2}, {"." + nines, api.One, 1}, {"1e" + nines, api.Inf, 2}, {"1e-" + nines, 0, 2}, {nines + "e-" + nines, 0, 2},
		{"9007199254740993." + none, 0x4340000000000000, 1}, {"9007199254740993." + none + "1", 0x4340000000000001, 2}, {"9007199254740992." + nines, 0x4340000000000000, 2}, {"9007199254740993" + none + "1e-" + strconv.Itoa(n+1), 0x4340000000000001, 2}, {"-9007199254740992" + nines + "e-" + size, 0xc340000000000000, 2},
	} {
		if x, used := strtod.Parse(c.s); x != c.want || used != len(c.s) {
			t.Errorf("Parse of %d bytes (%.20q..) = %016x, %d, want %016x", len(c.s), c.s, x, used, c.want)
		}
		if x, ok := strtod.Whole(c.s + " "); x != c.want || !ok {
			t.Errorf("Whole of %d bytes (%.20q..) = %016x, %v, want %016x", len(c.s), c.s, x, ok, c.want)
		}
		if r := strtod.Road(c.s); r != c.way {
			t.Errorf("Road of %d bytes (%.20q..) = %d, want %d", len(c.s), c.s, r, c.way)
		}
	}
	if x, used := strtod.Parse(spaces); x != 0 || used != 0 {
		t.Errorf("Parse of blanks = %016x, %d", x, used)
	}
}

// P10.5, P2: a call hangs on its arguments alone, whatever calls went ahead of it or go on beside it.
func TestSameAnswers(t *testing.T) {
	texts := []string{"0.1", "9007199254740993.00000000000000000000000000001", "1e309", "x", "-0", "1e-400", "1.5e-310", zeros(100) + "7", "2." + strings.Repeat("3", 1000)}
	var first []uint64
	for _, s := range texts {
		x, _ := strtod.Parse(s)
		first = append(first, x)
	}
	var group sync.WaitGroup
	for k := range 8 {
		group.Go(func() {
			for i := range 50 * len(texts) {
				j := (i*(k+1) + k) % len(texts)
				if x, _ := strtod.Parse(texts[j]); x != first[j] {
					t.Errorf("Parse(%.40q) = %016x, and %016x at first", texts[j], x, first[j])
				}
			}
		})
	}
	group.Wait()
}
