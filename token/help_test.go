package token_test

import (
	"fmt"
	"math"
	"regexp"
	"slices"
	"strconv"
	"strings"
	"testing"

	"abacus/api"
	"abacus/token"
)

// random: a number from a fixed row (splitmix64), so that every run tests the same.
func random(seed *uint64) uint64 {
	*seed += 0x9e3779b97f4a7c15
	z := *seed
	z = (z ^ z>>30) * 0xbf58476d1ce4e5b9
	z = (z ^ z>>27) * 0x94d049bb133111eb
	return z ^ z>>31
}

// between: a number from low to high.
func between(seed *uint64, low int, high int) int {
	return low + int(random(seed)%uint64(high-low+1))
}

// pick: one of these.
func pick[T any](seed *uint64, list ...T) T { return list[between(seed, 0, len(list)-1)] }

// brief: enough of a thing to know it by.
func brief(x any) string {
	text := fmt.Sprintf("%q", fmt.Sprint(x))
	if len(text) > 300 {
		return text[:300] + ".."
	}
	return text
}

// The words of the document's lists.
var (
	functions = strings.Fields("length substr index sprintf split int sqrt toupper tolower sub gsub sum asort")
	keywords  = strings.Fields("BEGIN END if else while for in break continue next exit print printf delete")
	doubles   = strings.Fields("++ -- += -= *= /= %= ^= == <= >= != && ||")
	singles   = strings.Fields("+ - * / % ^ ! < > = ? : , $ ( ) [ ] { }")
)

// The shapes of tokens and of what is between them. A byte that is no UTF-8 counts as one strange letter, so that they go by bytes where it matters.
var (
	gap    = regexp.MustCompile(`^(?:[\t\v\f\r ]|#[^\n]*|\\\n)`)
	number = regexp.MustCompile(`^(?:[0-9]+\.?[0-9]*|\.[0-9]+)(?:[eE][+-]?[0-9]+)?`)
	word   = regexp.MustCompile(`^[A-Za-z_][A-Za-z0-9_]*`)
	inside = regexp.MustCompile(`^"(?:[^"\\\n]|\\["\\/abtnvfr]|\\[0-7]{1,3})*`)
	escape = regexp.MustCompile(`(?s)\\(?:[0-7]{1,3}|.)`)
)

// model: what Lex must answer, told by the shapes.
func model(s string) ([]api.Token, int, api.Errno) {
	var made []api.Token
	at := 0
	add := func(kind int, text string, num uint64, count int) {
		made = append(made, api.Token{Kind: kind, Text: text, Num: num, At: at, End: at + count})
		at += count
	}
	for at < len(s) {
		rest := s[at:]
		op := operator(rest)
		switch {
		case gap.MatchString(rest):
			at += len(gap.FindString(rest))
		case rest[0] == '\n' && len(made) > 0 && letsBy(made[len(made)-1]):
			at++
		case rest[0] == '\n' || rest[0] == ';':
			add(api.TokLine, rest[:1], 0, 1)
		case number.MatchString(rest):
			text := number.FindString(rest)
			x, _ := strconv.ParseFloat(text, 64)
			add(api.TokNumber, "", math.Float64bits(x), len(text))
		case word.MatchString(rest):
			text := word.FindString(rest)
			add(kindOf(text), text, 0, len(text))
		case rest[0] == '"':
			body := inside.FindString(rest)
			behind := rest[len(body):]
			switch {
			case behind == "" || behind == "\\" || behind[0] == '\n' || strings.HasPrefix(behind, "\\\n"):
				return nil, at, api.ErrQuote
			case behind[0] == '\\':
				return nil, at + len(body), api.ErrEscape
			}
			add(api.TokString, escape.ReplaceAllStringFunc(body[1:], escaped), 0, len(body)+1)
		case op != "":
			add(api.TokOp, op, 0, len(op))
		default:
			return nil, at, api.ErrByte
		}
	}
	add(api.TokEnd, "", 0, 0)
	return made, 0, api.OK
}

// letsBy: whether a newline behind this token is let by.
func letsBy(last api.Token) bool {
	return last.Kind == api.TokOp && slices.Contains([]string{"{", "&&", "||", ","}, last.Text) || last.Kind == api.TokKeyword && last.Text == "else"
}

// kindOf: what a run of letters, digits and _ is.
func kindOf(text string) int {
	switch {
	case slices.Contains(functions, text):
		return api.TokFunc
	case slices.Contains(keywords, text):
		return api.TokKeyword
	}
	return api.TokName
}

// operator: the one at the head of a text; "" if there is none.
func operator(rest string) string {
	for _, list := range [][]string{doubles, singles} {
		for _, op := range list {
			if strings.HasPrefix(rest, op) {
				return op
			}
		}
	}
	return ""
}

// escaped: what an escape means.
func escaped(text string) string {
	if n, e := strconv.ParseUint(text[1:], 8, 16); e == nil {
		return string([]byte{byte(n % 256)})
	}
	letters := map[string]string{"a": "\x07", "b": "\x08", "t": "\x09", "n": "\x0a", "v": "\x0b", "f": "\x0c", "r": "\x0d"}
	if meant, ok := letters[text[1:]]; ok {
		return meant
	}
	return text[1:]
}

// holdLex: whether Lex answers as the model does, and its tokens read back.
func holdLex(t *testing.T, s string) {
	t.Helper()
	want, place, fault := model(s)
	got, at, e := token.Lex(s)
	if !slices.Equal(got, want) || at != place || e != fault {
		t.Fatalf("Lex(%s) = %s, %d, %d, want %s, %d, %d", brief(s), brief(got), at, e, brief(want), place, fault)
	}
	if e == api.OK {
		holdAnew(t, s, got)
	}
}

// holdAnew: whether tokens that are written anew are read as the same.
func holdAnew(t *testing.T, s string, list []api.Token) {
	t.Helper()
	texts := make([]string, len(list))
	for i, one := range list {
		texts[i] = one.Text
		switch one.Kind {
		case api.TokNumber:
			text, ok := token.Number(one.Num)
			if !ok && one.Num == api.Inf {
				text = "1e999"
			}
			texts[i] = text
		case api.TokString:
			texts[i] = token.Quote(one.Text)
		}
	}
	anew := strings.Join(texts, " ")
	again, at, e := token.Lex(anew)
	if !slices.Equal(bare(again), bare(list)) || at != 0 || e != api.OK {
		t.Fatalf("Lex(%s), anew %s = %s, %d, %d, want %s", brief(s), brief(anew), brief(again), at, e, brief(list))
	}
}

// bare: tokens without their places.
func bare(list []api.Token) []api.Token {
	out := slices.Clone(list)
	for i := range out {
		out[i].At, out[i].End = 0, 0
	}
	return out
}

// kinds: tokens as a short text, to be compared by eye: each by its kind's letter and its text.
func kinds(list []api.Token) string {
	var out []string
	for _, one := range list {
		text := one.Text
		if one.Kind == api.TokNumber {
			text = strconv.FormatFloat(math.Float64frombits(one.Num), 'g', -1, 64)
		}
		out = append(out, "enswfkol"[one.Kind:one.Kind+1]+":"+text)
	}
	return strings.Join(out, " ")
}
