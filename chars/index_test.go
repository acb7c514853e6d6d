package chars_test

import (
	"strings"
	"testing"

	"abacus/chars"
)

// P20.1: the chapter's examples of Index, and its edges.
func TestIndex(t *testing.T) {
	for _, c := range []struct {
		s, t string
		want int
	}{
		{"hello", "l", 3}, {"hello", "lo", 4}, {"hello", "x", 0}, {"hello", "hello", 1}, {"hello", "hellos", 0}, {"hello", "ello", 2},
		{"", "", 1}, {"ab", "", 1}, {"", "a", 0}, {"aab", "ab", 2}, {"aaab", "aab", 2}, {"abcabd", "abd", 4}, {"a", "a", 1}, {"ba", "a", 2},
		{"hello", "L", 0}, {"h.llo", "h.l", 1}, {"hello", "h.l", 0}, {"a b", " ", 2}, {"a\x00b", "\x00b", 2}, {"\xff\xfe", "\xfe", 2},
	} {
		holdIndex(t, c.s, c.t, c.want)
	}
}

// P20.1: places are counted in bytes, and a byte is found within a rune of several.
func TestIndexGoesByBytes(t *testing.T) {
	holdIndex(t, "\xc3\xa9\xc3\xa8x", "x", 5)
	holdIndex(t, "\xc3\xa9\xc3\xa8x", "\xa8", 4)
	holdIndex(t, "\xc3\xa9\xc3\xa8x", "\xa9\xc3", 2)
	holdIndex(t, "\xef\xbf\xbd", "\xff", 0)
	text := everyByte()
	for i := range text {
		holdIndex(t, text, text[i:i+1], i+1)
		holdIndex(t, text, text[i:], i+1)
	}
}

// P20.1: drawn texts; the place is the first one at which all the bytes agree.
func TestIndexOfDrawnTexts(t *testing.T) {
	seed := uint64(201)
	found := 0
	for range 50000 {
		s, sought := draw(&seed, 30), draw(&seed, 3)
		want := 0
		if list := stands(s, sought); len(list) > 0 {
			want = list[0] + 1
			found++
		}
		holdIndex(t, s, sought, want)
	}
	if found < 10000 || found > 45000 {
		t.Errorf("%d of the texts were found", found)
	}
}

// P20.1: long texts, of which all but the last byte stands at every place.
func TestIndexOfLongTexts(t *testing.T) {
	for _, length := range []int{7, 8, 31, 32, 33, 63, 64, 65, 127, 128, 1000, 100000} {
		sought := strings.Repeat("a", length) + "b"
		s := strings.Repeat("a", 300000)
		holdIndex(t, s, sought, 0)
		holdIndex(t, s+"b", sought, len(s)-length+1)
		holdIndex(t, s+"c"+sought, sought, len(s)+2)
	}
}

// P20.1: of all the bytes just the letters are changed, whatever stands beside them.
func TestLowerAndUpper(t *testing.T) {
	for c := range 256 {
		low, high := byte(c), byte(c)
		if 'A' <= c && c <= 'Z' {
			low += 'a' - 'A'
		}
		if 'a' <= c && c <= 'z' {
			high -= 'a' - 'A'
		}
		for _, around := range [][2]string{{"", ""}, {"zZ", "aA"}, {"\xc3", "\xa9"}} {
			s := around[0] + string([]byte{byte(c)}) + around[1]
			at := len(around[0])
			if got := chars.Lower(s); len(got) != len(s) || got[at] != low {
				t.Errorf("Lower(%q) = %q", s, got)
			}
			if got := chars.Upper(s); len(got) != len(s) || got[at] != high {
				t.Errorf("Upper(%q) = %q", s, got)
			}
		}
	}
}

// P20.1: the chapter's examples of Lower and Upper; runes that have another case stay.
func TestLowerAndUpperOfTexts(t *testing.T) {
	for _, c := range []struct{ s, low, high string }{
		{"", "", ""}, {"Ab\u00c71", "ab\u00c71", "AB\u00c71"}, {"az{", "az{", "AZ{"}, {"@AZ[`az{", "@az[`az{", "@AZ[`AZ{"},
		{"\u00e9\u212a\u0131", "\u00e9\u212a\u0131", "\u00e9\u212a\u0131"}, {"Hello, World", "hello, world", "HELLO, WORLD"}, {"\xffA\xff", "\xffa\xff", "\xffA\xff"},
	} {
		if got := chars.Lower(c.s); got != c.low {
			t.Errorf("Lower(%q) = %q, want %q", c.s, got, c.low)
		}
		if got := chars.Upper(c.s); got != c.high {
			t.Errorf("Upper(%q) = %q, want %q", c.s, got, c.high)
		}
	}
}

// P20.1: a text that is only turned over has no limit: one above MaxText is answered whole.
func TestLowerAndUpperOfALongText(t *testing.T) {
	length := 1<<24 + 5
	if got := chars.Lower(strings.Repeat("X", length)); got != row(length) {
		t.Errorf("Lower of %d bytes answers %d: %q", length, len(got), brief(got))
	}
	if got := chars.Upper(row(length)); got != strings.Repeat("X", length) {
		t.Errorf("Upper of %d bytes answers %d: %q", length, len(got), brief(got))
	}
}
