package token_test

import (
	"slices"
	"strings"
	"testing"

	"abacus/api"
	"abacus/token"
)

// P23.1: the document's first example, with all places.
func TestPlaces(t *testing.T) {
	got, at, e := token.Lex("x1 = .5e3;y")
	want := []api.Token{
		{Kind: api.TokName, Text: "x1", At: 0, End: 2}, {Kind: api.TokOp, Text: "=", At: 3, End: 4}, {Kind: api.TokNumber, Num: 0x407f400000000000, At: 5, End: 9},
		{Kind: api.TokLine, Text: ";", At: 9, End: 10}, {Kind: api.TokName, Text: "y", At: 10, End: 11}, {Kind: api.TokEnd, At: 11, End: 11},
	}
	if !slices.Equal(got, want) || at != 0 || e != api.OK {
		t.Errorf("%v, %d, %d", got, at, e)
	}
	got, at, e = token.Lex(" \"\\n\\101\" # x\n\\\n int in\t")
	want = []api.Token{
		{Kind: api.TokString, Text: "\nA", At: 1, End: 9}, {Kind: api.TokLine, Text: "\n", At: 13, End: 14},
		{Kind: api.TokFunc, Text: "int", At: 17, End: 20}, {Kind: api.TokKeyword, Text: "in", At: 21, End: 23}, {Kind: api.TokEnd, At: 24, End: 24},
	}
	if !slices.Equal(got, want) || at != 0 || e != api.OK {
		t.Errorf("%v, %d, %d", got, at, e)
	}
}

// P23.1: the document's examples and their like, by hand.
func TestExamples(t *testing.T) {
	for _, c := range []struct{ s, want string }{
		{"", "e:"}, {" \t\v\f\r ", "e:"}, {"#", "e:"}, {"# all", "e:"}, {"#\n", "l:\n e:"}, {"\\\n", "e:"}, {"\n", "l:\n e:"}, {"\\\n\n", "l:\n e:"}, {"# \\\nx", "l:\n w:x e:"},
		{"a++ +b", "w:a o:++ o:+ w:b e:"}, {"a+++b", "w:a o:++ o:+ w:b e:"}, {"a++++b", "w:a o:++ o:++ w:b e:"}, {"a<==b", "w:a o:<= o:= w:b e:"}, {"a===b", "w:a o:== o:= w:b e:"}, {"!=", "o:!= e:"}, {"! =", "o:! o:= e:"}, {"=!", "o:= o:! e:"}, {"+\\\n+", "o:+ o:+ e:"},
		{"&&&&", "o:&& o:&& e:"}, {"|||| ", "o:|| o:|| e:"}, {"**", "o:* o:* e:"}, {"^^=", "o:^ o:^= e:"}, {"$=", "o:$ o:= e:"}, {",=", "o:, o:= e:"}, {"<<", "o:< o:< e:"}, {">=<", "o:>= o:< e:"}, {"--=", "o:-- o:= e:"}, {"->", "o:- o:> e:"}, {"!!", "o:! o:! e:"},
		{"1.5.3", "n:1.5 n:0.3 e:"}, {"0x10", "n:0 w:x10 e:"}, {"1e+", "n:1 w:e o:+ e:"}, {"2e5e", "n:200000 w:e e:"}, {"1e5.5", "n:100000 n:0.5 e:"}, {"1.", "n:1 e:"}, {"1.e2", "n:100 e:"}, {"007", "n:7 e:"}, {"-1", "o:- n:1 e:"}, {"+1", "o:+ n:1 e:"}, {"1-1", "n:1 o:- n:1 e:"}, {"1e-1-1", "n:0.1 o:- n:1 e:"}, {"1E2", "n:100 e:"}, {"1e\\\n5", "n:1 w:e n:5 e:"}, {"1 e5", "n:1 w:e5 e:"}, {"1e999", "n:+Inf e:"}, {"1e-999", "n:0 e:"}, {"0", "n:0 e:"}, {"inf nan", "w:inf w:nan e:"}, {"1_", "n:1 w:_ e:"}, {"1e_", "n:1 w:e_ e:"}, {"12length", "n:12 f:length e:"},
		{"x.5", "w:x n:0.5 e:"}, {"_", "w:_ e:"}, {"_9z_", "w:_9z_ e:"}, {"aZ09_", "w:aZ09_ e:"}, {"In IN in", "w:In w:IN k:in e:"}, {"in1 inn", "w:in1 w:inn e:"}, {"begin BEGIN End END", "w:begin k:BEGIN w:End k:END e:"}, {"length Length lengths", "f:length w:Length w:lengths e:"}, {"print printf printff", "k:print k:printf w:printff e:"}, {"sub gsub ggsub sum asort", "f:sub f:gsub w:ggsub f:sum f:asort e:"}, {"getline function return do", "w:getline w:function w:return w:do e:"}, {"NF NR", "w:NF w:NR e:"}, {"el\\\nse", "w:el w:se e:"},
		{"\"\"", "s: e:"}, {"\"a\\n\\\"\\101\\7z\"", "s:a\n\"A\az e:"}, {"\"a\"\"b\"", "s:a s:b e:"}, {"\"\\400\"", "s:\x00 e:"}, {"\"\\777\\377\\000\\0000\\08\\18\"", "s:\xff\xff\x00\x000\x008\x018 e:"}, {"\"\\a\\b\\t\\n\\v\\f\\r\\/\\\\\"", "s:\a\b\t\n\v\f\r/\\ e:"}, {"\"#x\"#y", "s:#x e:"}, {"\"a\rb\x00\x80\xff\"", "s:a\rb\x00\x80\xff e:"}, {"\"\\\\\"", "s:\\ e:"}, {"\"\\\\n\"", "s:\\n e:"}, {"\"\\1012\\12a\\1\"", "s:A2\na\x01 e:"},
		{"{ # go\n\n x }", "o:{ w:x o:} e:"}, {"a\n\nb", "w:a l:\n l:\n w:b e:"}, {"a &&\n b", "w:a o:&& w:b e:"}, {"a \\\n b", "w:a w:b e:"}, {"else\nx", "k:else w:x e:"}, {"; \n", "l:; l:\n e:"}, {"{;\n", "o:{ l:; l:\n e:"}, {",\n#x\n\\\n\n;", "o:, l:; e:"}, {"||\n1", "o:|| n:1 e:"},
		{"\"{\"\n", "s:{ l:\n e:"}, {"\",\"\n", "s:, l:\n e:"}, {"\"else\"\n", "s:else l:\n e:"}, {"}\n", "o:} l:\n e:"}, {"(\n", "o:( l:\n e:"}, {"[\n", "o:[ l:\n e:"}, {"if\n", "k:if l:\n e:"}, {"do\n", "w:do l:\n e:"}, {"Else\n", "w:Else l:\n e:"}, {"=\n", "o:= l:\n e:"}, {"?\n:\n", "o:? l:\n o:: l:\n e:"}, {"in\n", "k:in l:\n e:"}, {"\r\n", "l:\n e:"}, {"{\r\n", "o:{ e:"},
	} {
		got, at, e := token.Lex(c.s)
		if kinds(got) != c.want || at != 0 || e != api.OK {
			t.Errorf("Lex(%q) = %q, %d, %d, want %q", c.s, kinds(got), at, e, c.want)
		}
		holdLex(t, c.s)
	}
}

// P23.1: the document's faults and their like: the first from the left, and its place; no tokens beside it.
func TestFaults(t *testing.T) {
	for _, c := range []struct {
		s     string
		place int
		fault api.Errno
	}{
		{"\"ab", 0, api.ErrQuote}, {"x \"a\\q", 4, api.ErrEscape}, {"\"a\\", 0, api.ErrQuote}, {"a & b", 2, api.ErrByte}, {". 5", 0, api.ErrByte},
		{"\"", 0, api.ErrQuote}, {"  \"", 2, api.ErrQuote}, {"\"a\nb\"", 0, api.ErrQuote}, {"\"a\\\nb\"", 0, api.ErrQuote}, {"\"\\\"", 0, api.ErrQuote}, {"\"a\"\"", 3, api.ErrQuote}, {"\"\\101", 0, api.ErrQuote}, {"\"\\1", 0, api.ErrQuote}, {"\"#\n\"", 0, api.ErrQuote},
		{"\"\\8\"", 1, api.ErrEscape}, {"\"\\9", 1, api.ErrEscape}, {"\"\\q\n", 1, api.ErrEscape}, {"\"\\q", 1, api.ErrEscape}, {"\"a\n\\q\"", 0, api.ErrQuote}, {"\"\\x41\"", 1, api.ErrEscape}, {"\"\\ \"", 1, api.ErrEscape}, {"\"\\&\"", 1, api.ErrEscape}, {"\"\\\x00\"", 1, api.ErrEscape}, {"\"\\\r\n\"", 1, api.ErrEscape}, {"\"\\A\"", 1, api.ErrEscape}, {"\"\\e\\q\"", 1, api.ErrEscape}, {"\"\\\\\\'\"", 3, api.ErrEscape}, {"\"\\\xff\"", 1, api.ErrEscape}, {"\"\\n\\c", 3, api.ErrEscape},
		{"&", 0, api.ErrByte}, {"|", 0, api.ErrByte}, {"&|", 0, api.ErrByte}, {"&&&", 2, api.ErrByte}, {"|||", 2, api.ErrByte}, {"&=", 0, api.ErrByte}, {"|=", 0, api.ErrByte}, {".", 0, api.ErrByte}, {"1..", 2, api.ErrByte}, {"1...5", 2, api.ErrByte}, {".e5", 0, api.ErrByte}, {"x.y", 1, api.ErrByte}, {"..5", 0, api.ErrByte}, {".\\\n5", 0, api.ErrByte},
		{"\\", 0, api.ErrByte}, {"a\\", 1, api.ErrByte}, {"\\ \n", 0, api.ErrByte}, {"\\\r\n", 0, api.ErrByte}, {"\\\\\n", 0, api.ErrByte}, {"\\\n\\", 2, api.ErrByte}, {"'a'", 0, api.ErrByte}, {"a ~ b", 2, api.ErrByte}, {"@", 0, api.ErrByte}, {"`", 0, api.ErrByte}, {"a\x00", 1, api.ErrByte}, {"\x80", 0, api.ErrByte}, {"a\u00e9", 1, api.ErrByte}, {"\xef\xbb\xbfx", 0, api.ErrByte}, {"\u00a0", 0, api.ErrByte}, {"#\n \x7f", 3, api.ErrByte}, {"\x1f", 0, api.ErrByte}, {"\b", 0, api.ErrByte}, {"\x0e", 0, api.ErrByte},
		{"a & \"b", 2, api.ErrByte}, {"\"b & '", 0, api.ErrQuote}, {"\"\\q\" &", 1, api.ErrEscape}, {"\"ok\" ' \"", 5, api.ErrByte},
	} {
		got, at, e := token.Lex(c.s)
		if len(got) != 0 || at != c.place || e != c.fault {
			t.Errorf("Lex(%q) = %v, %d, %d, want %d, %d", c.s, got, at, e, c.place, c.fault)
		}
		holdLex(t, c.s)
	}
}

// P23.1, P23.4: every byte and every two bytes, alone, in quotes, behind a backslash in quotes, within remarks and between other tokens.
func TestEveryTwoBytes(t *testing.T) {
	for a := range 256 {
		for b := range 256 {
			two := string([]byte{byte(a), byte(b)})
			for _, s := range []string{two, two[:1] + "5" + two[1:], "\"" + two + "\"", "\"\\" + two + "\"", "\"\\7" + two + "0\"x", "#" + two + "\nx", "{" + two + "\n"} {
				holdLex(t, s)
			}
		}
	}
}

// P23.1, P23.4: every short text of bytes that have a meaning.
func TestShortTexts(t *testing.T) {
	for _, letters := range []string{"1.e+-x\n", "\"\\7n8\n\t", "+-=!<&|", "{,;\n# \\"} {
		texts := []string{""}
		for range 5 {
			var longer []string
			for _, s := range texts {
				for i := range len(letters) {
					longer = append(longer, s+letters[i:i+1])
				}
			}
			for _, s := range longer {
				holdLex(t, s)
			}
			texts = longer
		}
	}
}

// drawText: a text of drawn pieces of scripts.
func drawText(seed *uint64, count int) string {
	var b strings.Builder
	for range count {
		switch between(seed, 0, 9) {
		case 0, 1:
			b.WriteString(pick(seed, slices.Concat(doubles, singles)...))
		case 2, 3:
			b.WriteString(pick(seed, slices.Concat(functions, keywords)...))
		case 4:
			b.WriteString(pick(seed, "x", "_1", "Ab", "else", "e5", "NF"))
		case 5:
			b.WriteString(pick(seed, "0", "1", "12", ".5", "1.", "3e4", "1e-7", "9e400", "0.1", "123456789012345678901234567890"))
		case 6:
			b.WriteString(token.Quote(drawBytes(seed, between(seed, 0, 6))))
		case 7:
			b.WriteString(pick(seed, "\n", ";", "\\\n", "# go\n", "#\n\n"))
		default:
			b.WriteString(pick(seed, " ", "\t", "  ", "\r\n"))
		}
	}
	return b.String()
}

// drawBytes: so many bytes, most of them of those that escapes are about.
func drawBytes(seed *uint64, count int) string {
	out := make([]byte, count)
	for i := range out {
		out[i] = byte(random(seed))
		if between(seed, 0, 1) == 0 {
			out[i] = pick(seed, '"', '\\', '\n', '0', '7', 'n', byte('/'))
		}
	}
	return string(out)
}

// P23.1, P23.4: drawn scripts, some with a byte changed.
func TestDrawnTexts(t *testing.T) {
	seed := uint64(231)
	for range 40000 {
		s := []byte(drawText(&seed, between(&seed, 0, 24)))
		if len(s) > 0 && between(&seed, 0, 2) == 0 {
			s[between(&seed, 0, len(s)-1)] = pick(&seed, '"', '\\', '\n', '.', '&', '#', 'e', byte(random(&seed)))
		}
		holdLex(t, string(s))
	}
}

// P23.1: texts of any length, in work that is linear in them, long tokens and many.
func TestLongTexts(t *testing.T) {
	const n = 1 << 20
	for _, c := range []struct {
		s     string
		count int // of tokens, with the end
	}{
		{strings.Repeat("a", n), 2}, {strings.Repeat(" ", n), 1}, {strings.Repeat("#", n), 1}, {strings.Repeat("7", n), 2}, {strings.Repeat("0", n) + "." + strings.Repeat("0", n) + "1e" + strings.Repeat("1", n), 2}, {"\"" + strings.Repeat("\\7", n) + "\"", 2}, {strings.Repeat("\\\n", n), 1}, {strings.Repeat("{", n), n + 1}, {"{" + strings.Repeat("\n", n), 2}, {strings.Repeat("\n", n), n + 1}, {strings.Repeat("1 ", n), n + 1}, {strings.Repeat("1e+ ", n/4), 3*n/4 + 1}, {strings.Repeat("#\n", n), n + 1}, {strings.Repeat("\"\"", n), n + 1},
	} {
		got, at, e := token.Lex(c.s)
		if len(got) != c.count || at != 0 || e != api.OK {
			t.Errorf("Lex of %d bytes (%.9q..): %d tokens, %d, %d, want %d", len(c.s), c.s, len(got), at, e, c.count)
			continue
		}
		if last := got[len(got)-1]; last != (api.Token{At: len(c.s), End: len(c.s)}) {
			t.Errorf("Lex of %d bytes (%.9q..): the last is %v", len(c.s), c.s, last)
		}
	}
	if got, at, e := token.Lex(strings.Repeat("a ", n) + "\"" + strings.Repeat("b", n)); len(got) != 0 || at != 2*n || e != api.ErrQuote {
		t.Errorf("a long text without its end: %d tokens, %d, %d", len(got), at, e)
	}
	if got, at, e := token.Lex(strings.Repeat("a ", n) + "\"" + strings.Repeat("\\\\", n) + "\\?"); len(got) != 0 || at != 4*n+1 || e != api.ErrEscape {
		t.Errorf("a long text with a wrong escape: %d tokens, %d, %d", len(got), at, e)
	}
}
