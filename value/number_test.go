package value_test

import (
	"regexp"
	"strings"
	"testing"

	"abacus/api"
	"abacus/value"
)

// holdNumber: ToNum and Truth must answer this.
func holdNumber(t *testing.T, v api.Value, d uint64, truth bool) {
	t.Helper()
	if got := value.ToNum(v); got != d {
		t.Fatalf("ToNum of {%d %016x %q}: %016x; want %016x", v.Kind, v.Num, brief(v.Str), got, d)
	}
	if got := value.Truth(v); got != truth {
		t.Fatalf("Truth of {%d %016x %q}: %v", v.Kind, v.Num, brief(v.Str), got)
	}
}

// P17.3: the document's examples, and a string whose head alone is a number.
func TestNumberExamples(t *testing.T) {
	holdNumber(t, api.Value{}, 0, false)
	holdNumber(t, api.Value{Kind: 7, Num: 5, Str: "5"}, 0, false)
	holdNumber(t, value.Input("0"), 0, false)
	holdNumber(t, value.Input(" 0.0"), 0, false)
	holdNumber(t, value.Input("-0"), minus, false)
	holdNumber(t, value.Input("0x"), 0, true)
	holdNumber(t, value.Input(""), 0, false)
	holdNumber(t, value.Num(api.NaN), api.NaN, true)
	holdNumber(t, value.Num(minus), minus, false)
	for s, x := range map[string]float64{
		"3x": 3, "x": 0, "0": 0, "12": 12, "  +1e2 ": 100, "1e": 1, "1e+": 1, "1.5.2": 1.5, ".5.": 0.5, ".": 0, "- 1": 0, "0x10": 0, "inf": 0, "nan": 0, "-x": 0, "-.e1": 0, "1 2": 1, "7\x00": 7, "\x007": 0, "\xa07": 0, " ": 0, "+-1": 0, "1e5e5": 1e5,
	} {
		holdNumber(t, str(s), bits(x), true)
	}
	holdNumber(t, str(" -0"), minus, true)
	holdNumber(t, str("-0x5"), minus, true)
	holdNumber(t, str("-1e-999 small"), minus, true)
	holdNumber(t, str("1e999,"), api.Inf, true)
	holdNumber(t, str(""), 0, false)
}

// P17.3: the Num of a number and of a strnum stands as it is, NaNs' bits too, whatever its Str is; just the zeros are false.
func TestNumberBits(t *testing.T) {
	seed := uint64(173)
	list := ends()
	for range 1000 {
		list = append(list, random(&seed))
	}
	for _, d := range list {
		for _, d := range []uint64{d, d | minus} {
			for _, s := range []string{"", "0", "7", "x"} {
				holdNumber(t, api.Value{Kind: api.KindNum, Num: d, Str: s}, d, d&^minus != 0)
				holdNumber(t, strnum(d, s), d, d&^minus != 0)
				holdNumber(t, api.Value{Num: d, Str: s}, 0, false)
			}
		}
	}
	for bit := range 63 {
		holdNumber(t, pattern(1<<bit), 1<<bit, true)
		holdNumber(t, strnum(minus|1<<bit, "0"), minus|1<<bit, true)
	}
}

// P17.3: a Kind that is none of the four is no value.
func TestNumberKinds(t *testing.T) {
	for _, kind := range wrongKinds() {
		holdNumber(t, api.Value{Kind: kind, Num: api.One, Str: "5"}, 0, false)
		holdNumber(t, api.Value{Kind: kind, Num: minus}, 0, false)
	}
}

// P17.3: drawn strings: the longest literal behind the blanks at the head, told by a regular expression.
func TestNumberDrawn(t *testing.T) {
	head := regexp.MustCompile(`^` + space + `(` + literal + `)`)
	head.Longest()
	seed := uint64(1731)
	for range 200000 {
		s := pick(&seed, drawText, drawLiteral)(&seed)
		d := uint64(0)
		if m := head.FindStringSubmatch(s); m != nil {
			d = read(m[1])
		}
		holdNumber(t, str(s), d, s != "")
	}
}

// P17.3: strings of any length.
func TestNumberLong(t *testing.T) {
	zeros := strings.Repeat("0", api.MaxText)
	holdNumber(t, str(zeros+"7x"), read("7"), true)
	holdNumber(t, str("7"+zeros+"x"), api.Inf, true)
	holdNumber(t, str("0."+zeros+"7x"), 0, true)
	holdNumber(t, str(strings.Repeat(" ", api.MaxText)+"-2"), read("-2"), true)
	holdNumber(t, str("x"+zeros), 0, true)
}
