package record_test

import (
	"slices"
	"strings"
	"testing"

	"abacus/record"
)

// P21.1: the chapter's examples of Lines by a separator, and its edges.
func TestLines(t *testing.T) {
	holdLines(t, "a\nb\n", "\n", "a", "b")
	holdLines(t, "a\nb", "\n", "a", "b")
	holdLines(t, "a\n\nb", "\n", "a", "", "b")
	holdLines(t, "", "\n")
	holdLines(t, "\n", "\n", "")
	holdLines(t, "\n\n", "\n", "", "")
	holdLines(t, "\na", "\n", "", "a")
	holdLines(t, "aXXXb", "XX", "a", "Xb")
	holdLines(t, "aXXXXb", "XX", "a", "", "b")
	holdLines(t, "aXX", "XX", "a")
	holdLines(t, "aXXX", "XX", "a", "X")
	holdLines(t, "aXXXX", "XX", "a", "")
	holdLines(t, "XX", "XX", "")
	holdLines(t, "X", "XX", "X")
	holdLines(t, "XXX", "XX", "", "X")
	holdLines(t, "a;b", "\n", "a;b")
	holdLines(t, "a", "abc", "a")
	holdLines(t, "aab", "ab", "a")
	holdLines(t, " a  b ", " ", "", "a", "", "b")
	holdLines(t, "", " ")
	holdLines(t, "a.b", ".", "a", "b")
	holdLines(t, "axb", ".", "axb")
	holdLines(t, "a\n+b", "\n+", "a", "b")
	holdLines(t, "a\n\nb", "\n+", "a\n\nb")
	holdLines(t, "a\r\nb\n", "\r\n", "a", "b\n")
	holdLines(t, "\xc3\xa9\xc3", "\xc3", "", "\xa9")
}

// P21.1: the chapter's examples of Lines by paragraphs, and its edges.
func TestLinesByParagraphs(t *testing.T) {
	holdLines(t, "\n\na\nb\n\n\nc\n", "", "a\nb", "c")
	holdLines(t, "\n\n\n", "")
	holdLines(t, "\n", "")
	holdLines(t, "", "")
	holdLines(t, "x", "", "x")
	holdLines(t, "x\n", "", "x")
	holdLines(t, "\nx", "", "x")
	holdLines(t, "a\nb", "", "a\nb")
	holdLines(t, "a\n \nb", "", "a\n \nb")
	holdLines(t, " \n\n ", "", " ", " ")
	holdLines(t, "a\r\n\r\nb", "", "a\r\n\r\nb")
	holdLines(t, "\x00\n\n\xff", "", "\x00", "\xff")
	for run := 2; run < 9; run++ {
		newlines := strings.Repeat("\n", run)
		holdLines(t, "a"+newlines+"b\nc"+newlines+"d", "", "a", "b\nc", "d")
		holdLines(t, newlines+"a"+newlines, "", "a")
	}
}

// P21.1: any byte, and any two, as a separator mean themselves.
func TestLinesByEveryByte(t *testing.T) {
	text := make([]byte, 256)
	for i := range text {
		text[i] = byte(i)
	}
	all := string(text)
	for c := range 256 {
		rs := all[c : c+1]
		want := []string{all[:c]}
		if c < 255 {
			want = append(want, all[c+1:])
		}
		holdLines(t, all, rs, want...)
		holdLines(t, rs+rs, rs, "", "")
		holdLines(t, all, rs+rs, all)
	}
}

// recordsOf: the records of a text as the chapter tells them, by going from byte to byte.
func recordsOf(text string, rs string) []string {
	var list []string
	piece := ""
	for at := 0; at < len(text); {
		if strings.HasPrefix(text[at:], rs) {
			list = append(list, piece)
			piece = ""
			at += len(rs)
			continue
		}
		piece += text[at : at+1]
		at++
	}
	if piece != "" {
		list = append(list, piece)
	}
	return list
}

// paragraphsOf: the paragraphs of a text, told by its lines: each is as many lines that aren't empty as stand in a row.
func paragraphsOf(text string) []string {
	var list, open []string
	for _, line := range append(recordsOf(text, "\n"), "") {
		if line != "" {
			open = append(open, line)
		} else if len(open) > 0 {
			list = append(list, strings.Join(open, "\n"))
			open = nil
		}
	}
	return list
}

// P21.1, P21.5: drawn texts are cut as the chapter says, and the records with their separators give the text back.
func TestLinesOfDrawnTexts(t *testing.T) {
	seed := uint64(211)
	several, ended := 0, 0
	for range 50000 {
		text, rs := draw(&seed, 30), drawSep(&seed)
		if rs == "" {
			holdLines(t, text, "", paragraphsOf(text)...)
			continue
		}
		want := recordsOf(text, rs)
		holdLines(t, text, rs, want...)
		if len(want) > 1 {
			several++
		}
		again := ""
		for _, r := range record.Lines(text, rs) {
			again += r + rs
		}
		if again != text && again != text+rs {
			t.Fatalf("the records of %q by %q give %q", text, rs, again)
		}
		if again == text {
			ended++
		}
	}
	if several < 10000 || ended < 5000 {
		t.Errorf("%d texts had several records, %d ended with their separator", several, ended)
	}
}

// P21.1: paragraphs of drawn texts with many newlines.
func TestParagraphsOfDrawnTexts(t *testing.T) {
	seed := uint64(212)
	for range 20000 {
		text := make([]byte, between(&seed, 0, 24))
		for i := range text {
			text[i] = pick[byte](&seed, '\n', '\n', '\n', 'a', 'b', ' ', '\r')
		}
		holdLines(t, string(text), "", paragraphsOf(string(text))...)
	}
}

// P21.1: records have no limit, in number or in length.
func TestLinesOfLongTexts(t *testing.T) {
	many := slices.Repeat([]string{"x"}, 100000)
	holdLines(t, strings.Repeat("x\n", 100000), "\n", many...)
	holdLines(t, strings.Repeat("x\n\n\n", 100000), "", many...)
	holdLines(t, strings.Repeat("\n", 1000000), "")
	holdLines(t, strings.Repeat("\n", 1000000)+"x", "", "x")
	holdLines(t, strings.Repeat("\n", 100000), "\n", make([]string, 100000)...)
	long := row(most + 1)
	holdLines(t, long, "\n", long)
	holdLines(t, long+"\ny\n", "\n", long, "y")
	holdLines(t, "\n"+long+"\n\ny", "", long, "y")
	holdLines(t, "y"+long+"z"+long, long, "y", "z")
	holdLines(t, "y", long, "y")
}
