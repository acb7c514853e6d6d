package chars_test

import (
	"slices"
	"strings"
	"testing"

	"abacus/api"
	"abacus/chars"
)

// P20.3: the chapter's examples of Split, and its edges.
func TestSplit(t *testing.T) {
	holdSplit(t, " a  b\tc\n", " ", "a", "b", "c")
	holdSplit(t, "a\rb", " ", "a", "b")
	holdSplit(t, "   ", " ")
	holdSplit(t, blanks, " ")
	holdSplit(t, "abc", "", "a", "b", "c")
	holdSplit(t, "a,b,,c,", ",", "a", "b", "", "c", "")
	holdSplit(t, "aaa", "aa", "", "a")
	holdSplit(t, "aaaa", "aa", "", "", "")
	holdSplit(t, "a b", "  ", "a b")
	holdSplit(t, "a  b", "  ", "a", "b")
	holdSplit(t, "a   b", "  ", "a", " b")
	holdSplit(t, ",", ",", "", "")
	holdSplit(t, "x", "xx", "x")
	holdSplit(t, "x", "x", "", "")
	holdSplit(t, "x", " ", "x")
	holdSplit(t, " x", " ", "x")
	holdSplit(t, "x ", " ", "x")
	holdSplit(t, "x", "", "x")
	holdSplit(t, "a\tb c", "\t", "a", "b c")
	holdSplit(t, "a\nb", "\n", "a", "b")
	holdSplit(t, "a.b", ".", "a", "b")
	holdSplit(t, "a|b", "a|b", "", "")
	holdSplit(t, "ab", "[a]", "ab")
}

// P20.3: the empty text has no parts, whatever is between.
func TestSplitOfNothing(t *testing.T) {
	for _, sep := range []string{"", " ", "  ", ",", "\t", "abc", "\x00", everyByte()} {
		holdSplit(t, "", sep)
	}
}

// P20.3: just six bytes are blanks, and runes that are spaces elsewhere are none.
func TestSplitByBlanks(t *testing.T) {
	for c := range 256 {
		b := string([]byte{byte(c)})
		s := "a" + b + b + "b" + b
		if strings.Contains(blanks, b) {
			holdSplit(t, s, " ", "a", "b")
			holdSplit(t, b+s, " ", "a", "b")
		} else {
			holdSplit(t, s, " ", s)
			holdSplit(t, " "+s+" c", " ", s, "c")
		}
	}
	for _, space := range []string{"\u0085", "\u00a0", "\u2003", "\u3000"} {
		holdSplit(t, "a"+space+"b", " ", "a"+space+"b")
	}
}

// P20.3: any one byte but the blank cuts at itself alone, a blank of another kind too.
func TestSplitByOneByte(t *testing.T) {
	text := everyByte()
	for c := range 256 {
		if sep := string([]byte{byte(c)}); sep != " " {
			holdSplit(t, text, sep, text[:c], text[c+1:])
			holdSplit(t, sep+text, sep, "", text[:c], text[c+1:])
		}
	}
}

// P20.3: an empty text between parts the bytes, not the runes.
func TestSplitIntoBytes(t *testing.T) {
	holdSplit(t, "\xc3\xa9 \xff", "", "\xc3", "\xa9", " ", "\xff")
	text := everyByte()
	got := chars.Split(text, "")
	if len(got) != 256 {
		t.Fatalf("%d parts", len(got))
	}
	for i, part := range got {
		if part != text[i:i+1] {
			t.Errorf("part %d is %q", i, part)
		}
	}
}

// splitParts: the parts of s as the chapter tells them, byte by byte.
func splitParts(s string, sep string) []string {
	switch {
	case s == "":
		return nil
	case sep == "":
		return cut(s, stands(s, ""), 0)[1 : len(s)+1]
	case sep != " ":
		return cut(s, stands(s, sep), len(sep))
	}
	var parts []string
	part := ""
	for _, c := range []byte(s + " ") {
		if !strings.Contains(blanks, string([]byte{c})) {
			part += string([]byte{c})
		} else if part != "" {
			parts = append(parts, part)
			part = ""
		}
	}
	return parts
}

// P20.3: drawn texts are cut as the chapter says, and Join gives them back unless the text between is a blank.
func TestSplitOfDrawnTexts(t *testing.T) {
	seed := uint64(203)
	several := 0
	for range 50000 {
		s, sep := draw(&seed, 30), pick(&seed, " ", "", draw(&seed, 1), draw(&seed, 2), draw(&seed, 3))
		want := splitParts(s, sep)
		holdSplit(t, s, sep, want...)
		if len(want) > 1 {
			several++
		}
		if sep != " " {
			holdJoin(t, chars.Split(s, sep), sep, s, api.OK)
		}
	}
	if several < 15000 {
		t.Errorf("only %d texts had several parts", several)
	}
}

// P20.3: parts have no limit, in number or in length.
func TestSplitOfLongTexts(t *testing.T) {
	many := strings.Repeat("x,", 100000)
	if got := chars.Split(many, ","); len(got) != 100001 || got[0] != "x" || got[99999] != "x" || got[100000] != "" {
		t.Errorf("%d parts of commas", len(got))
	}
	if got := chars.Split(strings.ReplaceAll(many, ",", " "), " "); !slices.Equal(got, slices.Repeat([]string{"x"}, 100000)) {
		t.Errorf("%d parts of blanks", len(got))
	}
	if got := chars.Split(many, ""); len(got) != 200000 || got[199999] != "," {
		t.Errorf("%d bytes", len(got))
	}
	long := row(1<<24 + 1)
	holdSplit(t, long, ",", long)
	holdSplit(t, " "+long+" y", " ", long, "y")
	holdSplit(t, long+",y", ",", long, "y")
}
