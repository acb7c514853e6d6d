package value_test

import (
	"regexp"
	"strconv"
	"strings"
	"testing"

	"abacus/api"
	"abacus/value"
)

const (
	literal = `[+-]?([0-9]+\.?[0-9]*|\.[0-9]+)([eE][+-]?[0-9]+)?`
	space   = `[\t\n\v\f\r ]*`
)

// read: the double of a literal.
func read(text string) uint64 {
	x, _ := strconv.ParseFloat(text, 64) // beyond the range it answers the infinity or the zero beside its error
	return bits(x)
}

// P17.2: the document's examples, and the edges of what a literal is.
func TestInputExamples(t *testing.T) {
	for s, d := range map[string]uint64{
		"12": 0x4028000000000000, " +1e2 ": 0x4059000000000000, "-0": minus, "0": 0, "+0": 0, "-0.0e9": minus, "00": 0,
		"1.": api.One, ".5": 0x3fe0000000000000, "-.5e0": 0xbfe0000000000000, "1E0": api.One, blanks + "1" + blanks: api.One,
		"1e999": api.Inf, "-1e999": api.Inf | minus, "1e-999": 0, "-1e-999": minus, "0.1": 0x3fb999999999999a,
		"1e99999999999999999999": api.Inf, "0e99999999999999999999": 0, "9007199254740993": 0x4340000000000000, "9007199254740993.00000000000000000000000000001": 0x4340000000000001,
	} {
		holdValue(t, "Input", value.Input(s), strnum(d, s))
	}
	for _, s := range []string{
		"", " ", blanks, "0x10", "0x0", "12a", "a12", "nan", "NaN", "inf", "Inf", "infinity", "+inf", "-nan", ".", "+", "-", "+.", "e5", ".e5", "1e", "1e+", "1e-", "1e5.", "1.2.3", "1 2", "- 1", "+-1", "--1", "1-", "1,5", "1_0", "0b1", "0o7", "1f", "1d",
		"1\x00", "\x001", "\xa01", "1\xa0", "\xc2\xa01", "\x081", "1\x0e", "1\x1f", "\x7f1", "1\x21", "\u0661", "1\u2003", "1e 5", "1 e5", "\"1\"",
	} {
		holdValue(t, "Input", value.Input(s), api.Value{Kind: api.KindStr, Str: s})
	}
}

// P17.2: every byte ahead of and behind a digit: blanks and what a literal may begin or end with make a strnum, all others a string.
func TestInputBytes(t *testing.T) {
	for c := range 256 {
		ahead, behind := string([]byte{byte(c), '7'}), string([]byte{'7', byte(c)})
		for s, good := range map[string]string{ahead: blanks + "+-.0123456789", behind: blanks + ".0123456789"} {
			want := api.Value{Kind: api.KindStr, Str: s}
			if strings.IndexByte(good, byte(c)) >= 0 {
				want = strnum(read(strings.Trim(s, blanks)), s)
			}
			holdValue(t, "Input", value.Input(s), want)
		}
	}
}

// P17.2: drawn texts, told apart by a regular expression.
func TestInputDrawn(t *testing.T) {
	whole := regexp.MustCompile(`^` + space + `(` + literal + `)` + space + `$`)
	seed := uint64(172)
	count := 0
	for range 200000 {
		s := pick(&seed, drawText, drawLiteral)(&seed)
		want := api.Value{Kind: api.KindStr, Str: s}
		if m := whole.FindStringSubmatch(s); m != nil {
			want = strnum(read(m[1]), s)
			count++
		}
		holdValue(t, "Input", value.Input(s), want)
	}
	if count < 50000 || count > 150000 {
		t.Errorf("%d strnums were drawn", count)
	}
}

// P17.2: texts of any length.
func TestInputLong(t *testing.T) {
	zeros, spaces := strings.Repeat("0", api.MaxText), strings.Repeat(" ", api.MaxText)
	for s, d := range map[string]uint64{zeros + "7": read("7"), "0." + zeros + "7": 0, "7." + zeros: read("7"), "7" + zeros: api.Inf, "1e" + zeros + "2": read("100"), spaces + "-3" + spaces: read("-3")} {
		holdValue(t, "Input", value.Input(s), strnum(d, s))
		holdValue(t, "Input", value.Input(s+"x"), api.Value{Kind: api.KindStr, Str: s + "x"})
	}
	holdValue(t, "Input", value.Input(spaces), api.Value{Kind: api.KindStr, Str: spaces})
}
