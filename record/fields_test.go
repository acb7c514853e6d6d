package record_test

import (
	"slices"
	"strings"
	"testing"

	"abacus/chars"
	"abacus/record"
)

// P21.1: the chapter's examples of Fields, and its edges.
func TestFields(t *testing.T) {
	holdFields(t, "  a b\t\nc ", " ", "a", "b", "c")
	holdFields(t, " ", " ")
	holdFields(t, blanks, " ")
	holdFields(t, "a,,b,", ",", "a", "", "b", "")
	holdFields(t, ",", ",", "", "")
	holdFields(t, "abc", "", "a", "b", "c")
	holdFields(t, "a  b", "  ", "a", "b")
	holdFields(t, "a   b", "  ", "a", " b")
	holdFields(t, "a b", "  ", "a b")
	holdFields(t, "a\rb", " ", "a", "b")
	holdFields(t, "a\tb c", "\t", "a", "b c")
	holdFields(t, "a\nb", "\n", "a", "b")
	holdFields(t, "aXXXb", "XX", "a", "Xb")
	holdFields(t, "a.b", ".", "a", "b")
	holdFields(t, "axb", ".", "axb")
	holdFields(t, "x", "x", "", "")
	holdFields(t, "x", "xx", "x")
	holdFields(t, "\xc3\xa9 \xff", "", "\xc3", "\xa9", " ", "\xff")
	holdFields(t, " 1 , 2e1 ,x", ",", " 1 ", " 2e1 ", "x")
	for _, fs := range []string{"", " ", ",", "  ", "\n", "abc"} {
		holdFields(t, "", fs)
	}
}

// P21.1: just six bytes part words.
func TestFieldsByBlanks(t *testing.T) {
	for c := range 256 {
		b := string([]byte{byte(c)})
		s := "a" + b + b + "b"
		if strings.Contains(blanks, b) {
			holdFields(t, b+s+b, " ", "a", "b")
		} else {
			holdFields(t, " "+s+" c", " ", s, "c")
		}
	}
	for _, space := range []string{"\u0085", "\u00a0", "\u2003", "\u3000"} {
		holdFields(t, "a"+space+"b", " ", "a"+space+"b")
	}
}

// P21.1: drawn texts have the fields that chars.Split answers.
func TestFieldsOfDrawnTexts(t *testing.T) {
	seed := uint64(213)
	several := 0
	for range 50000 {
		text, fs := draw(&seed, 30), drawSep(&seed)
		want := chars.Split(text, fs)
		holdFields(t, text, fs, want...)
		if len(want) > 1 {
			several++
		}
	}
	if several < 15000 {
		t.Errorf("only %d texts had several fields", several)
	}
}

// filled: so many fields x, and these behind them.
func filled(count int, fields ...string) []string {
	return append(slices.Repeat([]string{"x"}, count), fields...)
}

// P21.1: up to MaxFields words, and from there on the rest of the text without the blanks at its end.
func TestFieldsAboveTheLimitByBlanks(t *testing.T) {
	head := strings.Repeat("x\t \n", last-1)
	for _, end := range []string{"", " ", blanks, blanks + blanks} {
		holdFields(t, blanks+head+end, " ", filled(last-1)...)
		holdFields(t, head+"yz"+end, " ", filled(last-1, "yz")...)
		holdFields(t, head+"y z"+end, " ", filled(last-1, "y z")...)
		holdFields(t, blanks+head+end+"y"+blanks+"z\x00 \xff"+end, " ", filled(last-1, "y"+blanks+"z\x00 \xff")...)
	}
	holdFields(t, strings.Repeat("x ", last+1), " ", filled(last-1, "x x")...)
	holdFields(t, strings.Repeat("x ", 3*last), " ", filled(last-1, strings.Repeat("x ", 2*last)+"x")...)
}

// P21.1: up to MaxFields pieces, and from there on the rest of the text, separators and all.
func TestFieldsAboveTheLimitByAText(t *testing.T) {
	for _, fs := range []string{",", ", ", "\t", "  ", "ab", "\n", "\xa9"} {
		head := strings.Repeat("x"+fs, last-1)
		holdFields(t, strings.Repeat("x"+fs, last-2)+"y", fs, filled(last-2, "y")...)
		for _, end := range []string{"", "y", fs, "y" + fs, fs + fs + "y ", "y" + fs + "z" + fs + " "} {
			holdFields(t, head+end, fs, filled(last-1, end)...)
		}
	}
	empty := make([]string, last)
	holdFields(t, strings.Repeat(",", last-2), ",", empty[1:]...)
	holdFields(t, strings.Repeat(",", last-1), ",", empty...)
	holdFields(t, strings.Repeat(",", last), ",", append(empty[1:], ",")...)
	holdFields(t, strings.Repeat("a", 2*last+3), "aa", append(empty[1:], "aaaaa")...)
}

// P21.1: up to MaxFields bytes, and from there on the rest of the text.
func TestFieldsAboveTheLimitByBytes(t *testing.T) {
	holdFields(t, row(last-1), "", filled(last-1)...)
	holdFields(t, row(last), "", filled(last)...)
	holdFields(t, row(last)+" ", "", filled(last-1, "x ")...)
	holdFields(t, row(last-1)+" y \n", "", filled(last-1, " y \n")...)
	holdFields(t, row(4*last), "", filled(last-1, row(3*last+1))...)
}

// P21.1: a text that is only read has no limit.
func TestFieldsOfALongText(t *testing.T) {
	long := row(most + 1)
	holdFields(t, long, " ", long)
	holdFields(t, " "+long+" y ", " ", long, "y")
	holdFields(t, long+",y", ",", long, "y")
	if got := record.Fields(long, ""); len(got) != last || len(got[last-1]) != most+2-last || got[0] != "x" {
		t.Errorf("%d fields", len(got))
	}
}
