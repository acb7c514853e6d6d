package token_test

import (
	"fmt"
	"math"
	"slices"
	"strconv"
	"strings"
	"testing"

	"abacus/api"
	"abacus/token"
)

// quoteOf: a text in quotes, told byte by byte.
func quoteOf(s string) string {
	names := map[byte]string{'"': `\"`, '\\': `\\`, 7: `\a`, 8: `\b`, 9: `\t`, 10: `\n`, 11: `\v`, 12: `\f`, 13: `\r`}
	out := `"`
	for _, c := range []byte(s) {
		name, ok := names[c]
		switch {
		case ok:
			out += name
		case c >= 0x20 && c <= 0x7e:
			out += string(rune(c))
		default:
			out += fmt.Sprintf(`\%03o`, c)
		}
	}
	return out + `"`
}

// holdQuote: whether Quote answers the text in quotes, and that reads back.
func holdQuote(t *testing.T, s string) {
	t.Helper()
	got := token.Quote(s)
	if want := quoteOf(s); got != want {
		t.Errorf("Quote(%q) = %s, want %s", s, got, want)
	}
	want := []api.Token{{Kind: api.TokString, Text: s, End: len(got)}, {At: len(got), End: len(got)}}
	if list, at, e := token.Lex(got); !slices.Equal(list, want) || at != 0 || e != api.OK {
		t.Errorf("Lex(%s) = %v, %d, %d", got, list, at, e)
	}
}

// P23.2: Quote of every byte, alone, twice and with digits and letters behind it; the document's example.
func TestQuote(t *testing.T) {
	if got := token.Quote("\x41\x22\x0a\x00\xff"); got != `"A\"\n\000\377"` {
		t.Errorf("Quote: %s", got)
	}
	holdQuote(t, "")
	for c := range 256 {
		b := string([]byte{byte(c)})
		for _, s := range []string{b, b + b, b + "7", b + "0", b + "8", b + "n", b + `"`, b + `\`, `\` + b, "a" + b + "z"} {
			holdQuote(t, s)
		}
	}
	holdQuote(t, "\u00e9\u20ac\U0001f600")
	holdQuote(t, "a # b\r\n{ x }")
	seed := uint64(232)
	for range 5000 {
		holdQuote(t, drawBytes(&seed, between(&seed, 0, 30)))
	}
}

// P23.2: Quote has no limit.
func TestQuoteLong(t *testing.T) {
	const n = api.MaxText/4 + 1
	s := strings.Repeat("\x00", n)
	got := token.Quote(s)
	if got != `"`+strings.Repeat(`\000`, n)+`"` {
		t.Errorf("Quote of %d bytes: %d bytes", n, len(got))
	}
	if list, at, e := token.Lex(got); len(list) != 2 || list[0].Text != s || at != 0 || e != api.OK {
		t.Errorf("Lex of %d bytes: %d tokens, %d, %d", len(got), len(list), at, e)
	}
}

// holdNumber: whether Number answers the shortest text, and that reads back; or false.
func holdNumber(t *testing.T, d uint64) {
	t.Helper()
	x := math.Float64frombits(d)
	got, ok := token.Number(d)
	if math.Signbit(x) || math.IsInf(x, 0) || math.IsNaN(x) {
		if got != "" || ok {
			t.Errorf("Number(%x) = %q, %v", d, got, ok)
		}
		return
	}
	if y, e := strconv.ParseFloat(got, 64); y != x || e != nil || !ok || strings.Trim(got, "0123456789.e+-") != "" {
		t.Errorf("Number(%x) = %q, %v", d, got, ok)
	}
	if figures(got) != figures(strconv.FormatFloat(x, 'e', -1, 64)) {
		t.Errorf("Number(%x) = %q is not the shortest", d, got)
	}
	want := []api.Token{{Kind: api.TokNumber, Num: d, End: len(got)}, {At: len(got), End: len(got)}}
	if list, at, e := token.Lex(got); !slices.Equal(list, want) || at != 0 || e != api.OK {
		t.Errorf("Lex(%s) = %v, %d, %d, want %x", got, list, at, e, d)
	}
}

// figures: the digits of a number's text, without its point, its exponent and the zeros at both ends.
func figures(text string) string {
	text, _, _ = strings.Cut(text, "e")
	return strings.Trim(strings.Replace(text, ".", "", 1), "0")
}

// P23.2: Number of doubles of every exponent and of both signs, of the edges, and of drawn ones.
func TestNumber(t *testing.T) {
	for _, c := range []struct {
		d    uint64
		text string
	}{
		{0, "0"}, {api.One, "1"}, {0x3fb999999999999a, "0.1"}, {1, "5e-324"}, {api.Most, "1.7976931348623157e+308"}, {math.Float64bits(1e21), "1e+21"}, {math.Float64bits(1e20), "100000000000000000000"}, {math.Float64bits(1e-7), "1e-07"}, {math.Float64bits(1e-6), "0.000001"}, {math.Float64bits(123456.75), "123456.75"},
	} {
		if got, ok := token.Number(c.d); got != c.text || !ok {
			t.Errorf("Number(%x) = %q, %v, want %s", c.d, got, ok, c.text)
		}
	}
	seed := uint64(233)
	for exponent := range uint64(2048) {
		for _, fraction := range []uint64{0, 1, 1<<52 - 1, random(&seed) >> 12} {
			d := exponent<<52 | fraction
			holdNumber(t, d)
			holdNumber(t, d|api.Sign)
		}
	}
	for _, d := range []uint64{0, api.Sign, api.One | api.Sign, api.Inf, api.Inf | api.Sign, api.NaN, api.NaN | api.Sign, api.Inf + 1, 1<<64 - 1, api.Most, api.Most | api.Sign, 1, 1 | api.Sign} {
		holdNumber(t, d)
	}
	for range 5000 {
		holdNumber(t, random(&seed))
		holdNumber(t, math.Float64bits(float64(between(&seed, 0, 1<<30))/float64(pick(&seed, 1, 2, 10, 100, 1000))))
	}
}

// P23.3: the functions' names have the numbers 1 to 13, every other text 0.
func TestFunc(t *testing.T) {
	numbers := []int{api.FnLength, api.FnSubstr, api.FnIndex, api.FnSprintf, api.FnSplit, api.FnInt, api.FnSqrt, api.FnToupper, api.FnTolower, api.FnSub, api.FnGsub, api.FnSum, api.FnAsort}
	for i, name := range functions {
		if got := token.Func(name); got != i+1 || got != numbers[i] {
			t.Errorf("Func(%s) = %d, want %d", name, got, i+1)
		}
		for _, other := range []string{strings.ToUpper(name), strings.ToUpper(name[:1]) + name[1:], name + " ", " " + name, name + "\x00", name + name, name[1:], name + "("} {
			if got := token.Func(other); got != 0 && !slices.Contains(functions, other) {
				t.Errorf("Func(%q) = %d", other, got)
			}
		}
	}
	for _, name := range append([]string{"", "Length", "x", "_", "9", "match", "close", "\"length\"", "len", "su", "sinh"}, keywords...) {
		if got := token.Func(name); got != 0 {
			t.Errorf("Func(%q) = %d", name, got)
		}
	}
}

// holdWord: whether Word answers the kind of the one token that a text is, if rule 7 reads all of it.
func holdWord(t *testing.T, name string) {
	t.Helper()
	want := api.TokEnd
	if word.FindString(name) == name && name != "" {
		want = kindOf(name)
	}
	if got := token.Word(name); got != want {
		t.Errorf("Word(%q) = %d, want %d", name, got, want)
	}
	if list, _, _ := token.Lex(name); want != api.TokEnd && (len(list) != 2 || list[0].Kind != want || list[0].Text != name) {
		t.Errorf("Lex(%q) = %v", name, list)
	}
}

// P23.3: Word of all words, of what is nearly one, and of every short text of bytes at the edges of letters and digits.
func TestWord(t *testing.T) {
	for _, c := range []struct {
		name string
		kind int
	}{
		{"in", api.TokKeyword}, {"_9", api.TokName}, {"9a", api.TokEnd}, {"", api.TokEnd}, {"sum", api.TokFunc}, {"Sum", api.TokName}, {"a b", api.TokEnd}, {"a ", api.TokEnd}, {" a", api.TokEnd}, {"5", api.TokEnd}, {"a\n", api.TokEnd}, {"\"a\"", api.TokEnd}, {"a;", api.TokEnd}, {"+", api.TokEnd}, {"\u00e9", api.TokEnd}, {"a\xff", api.TokEnd}, {"a#", api.TokEnd},
	} {
		if got := token.Word(c.name); got != c.kind {
			t.Errorf("Word(%q) = %d, want %d", c.name, got, c.kind)
		}
	}
	for _, name := range slices.Concat(functions, keywords) {
		for _, s := range []string{name, strings.ToUpper(name), strings.ToLower(name), name + "_", "_" + name, name + "1", "1" + name, name + " ", " " + name, name + name, name[1:], name[:len(name)-1], name + "\x00", name + "("} {
			holdWord(t, s)
		}
	}
	for a := range 256 {
		for b := range 256 {
			holdWord(t, string([]byte{byte(a), byte(b)}))
		}
		holdWord(t, string([]byte{byte(a)}))
		holdWord(t, string([]byte{'i', byte(a), 'n'}))
	}
	holdWord(t, strings.Repeat("length", 100000))
	holdWord(t, strings.Repeat("length", 100000)+"-")
}
