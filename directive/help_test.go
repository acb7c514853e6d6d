package directive_test

import (
	"regexp"
	"strconv"
	"strings"
	"testing"

	"abacus/api"
	"abacus/directive"
)

const (
	maxInt = 1<<63 - 1
	minInt = -1 << 63
	verbs  = "diouxXcseEfFgG"
	marks  = "-+ #0"
)

// random: a number from a fixed row (splitmix64), so that every run tests the same.
func random(seed *uint64) uint64 {
	*seed += 0x9e3779b97f4a7c15
	z := *seed
	z = (z ^ z>>30) * 0xbf58476d1ce4e5b9
	z = (z ^ z>>27) * 0x94d049bb133111eb
	return z ^ z>>31
}

// between: a number from low to high.
func between(seed *uint64, low int, high int) int {
	return low + int(random(seed)%uint64(high-low+1))
}

// pick: one of these.
func pick[T any](seed *uint64, list ...T) T { return list[between(seed, 0, len(list)-1)] }

// drawFormat: a format of a few parts, most of them right, some cut off or with a stray byte.
func drawFormat(seed *uint64) string {
	var b strings.Builder
	for range between(seed, 0, 4) {
		switch between(seed, 0, 9) {
		case 0, 1:
			b.WriteString(pick(seed, "a", "b c", "\n", "\x00", "\xff", "é", "5", ".", "-*"))
		case 2:
			b.WriteString("%%")
		default:
			b.WriteString(drawDirective(seed))
		}
	}
	text := b.String()
	if between(seed, 0, 5) == 0 {
		text = text[:between(seed, 0, len(text))]
	}
	if between(seed, 0, 5) == 0 {
		at := between(seed, 0, len(text))
		text = text[:at] + pick(seed, "%", "*", ".", "-", "0", "5", "l", "\x00", "\x80") + text[at:]
	}
	return text
}

// drawDirective: a directive, its numbers now and then too great.
func drawDirective(seed *uint64) string {
	text := "%"
	for range pick(seed, 0, 0, 1, 2, 7) {
		text += string(marks[between(seed, 0, len(marks)-1)])
	}
	text += pick(seed, "", "", "*", "1", "9", "10", "73", "4095", "4096", "4097", "40960", "99999999999999999999", "18446744073709551617")
	text += pick(seed, "", "", ".", ".*", ".0", ".00", ".1", ".9", ".04096", ".4096", ".4097", ".0004097", ".18446744073709551616")
	return text + string(verbs[between(seed, 0, len(verbs)-1)])
}

// drawPiece: a piece in form.
func drawPiece(seed *uint64) api.Piece {
	switch between(seed, 0, 4) {
	case 0:
		return api.Piece{Text: pick(seed, "a", "\x00", " .*5", "\xff\xfe", "d", strings.Repeat("long", 50))}
	case 1:
		return api.Piece{Verb: '%'}
	}
	p := api.Piece{Verb: verbs[between(seed, 0, len(verbs)-1)], Flags: between(seed, 0, 31), WidthKind: between(seed, 0, 2), PrecKind: between(seed, 0, 2)}
	if p.WidthKind == api.HasNumber {
		p.Width = pick(seed, 1, 2, 10, 4095, 4096, between(seed, 1, 4096))
	}
	if p.PrecKind == api.HasNumber {
		p.Prec = pick(seed, 0, 1, 10, 4095, 4096, between(seed, 0, 4096))
	}
	return p
}

// drawPieces: pieces in form, no two texts side by side.
func drawPieces(seed *uint64) []api.Piece {
	var list []api.Piece
	for range between(seed, 0, 8) {
		p := drawPiece(seed)
		if n := len(list); p.Verb != 0 || n == 0 || list[n-1].Verb != 0 {
			list = append(list, p)
		}
	}
	return list
}

// The shapes of a format: one whole piece, and a text all of whose bytes may stand there, the last directive perhaps without its end. Bytes are told as the runes 0 to 255.
var (
	onePiece = regexp.MustCompile(`^(?s:([^%]+)|(%%)|%([-+ #0]*)(\*|[1-9][0-9]*|)(?:(\.)(\*|[0-9]*))?([diouxXcseEfFgG]))`)
	begun    = regexp.MustCompile(`^(?s:[^%]|%%|%[-+ #0]*(?:\*|[1-9][0-9]*|)(?:\.(?:\*|[0-9]*))?[diouxXcseEfFgG])*(?:%(?:[-+ #0]*(?:\*|[1-9][0-9]*|)(?:\.(?:\*|[0-9]*))?)?)?$`)
	numbers  = regexp.MustCompile(`%%|%[-+ #0]*([1-9][0-9]*|\*|)(?:\.([0-9]*))?`)
)

// asRunes: each byte as the rune of its number, and back.
func asRunes(text string) string {
	var r []rune
	for _, c := range []byte(text) {
		r = append(r, rune(c))
	}
	return string(r)
}

func asBytes(text string) string {
	var b []byte
	for _, r := range text {
		b = append(b, byte(r))
	}
	return string(b)
}

// fault: where a format's first fault lies, and which it is, by the shapes alone.
func fault(format string) (int, api.Errno) {
	at, e := len(format), api.OK
	for i := range len(format) {
		if !begun.MatchString(asRunes(format[:i+1])) {
			at, e = i, api.ErrVerb
			break
		}
	}
	// One byte for each rune, so that the places are those of the format.
	plain := strings.Map(func(r rune) rune { return min(r, 127) }, asRunes(format[:at]))
	for _, m := range numbers.FindAllStringSubmatchIndex(plain, -1) {
		for g := 2; g < len(m); g += 2 {
			if m[g] < 0 {
				continue
			}
			if n := strings.TrimLeft(plain[m[g]:m[g+1]], "0"); n != "*" && (len(n) > 4 || len(n) == 4 && n > "4096") {
				return m[g], api.ErrWide
			}
		}
	}
	if e == api.OK && !wholly(format) {
		return len(format), api.ErrEnds
	}
	if e == api.OK {
		at = 0
	}
	return at, e
}

// wholly: whether a format is pieces up to its end.
func wholly(format string) bool {
	rest := asRunes(format)
	for rest != "" {
		m := onePiece.FindString(rest)
		if m == "" {
			return false
		}
		rest = rest[len(m):]
	}
	return true
}

// split: the pieces of a format without a fault, by the shape of one.
func split(format string) []api.Piece {
	var list []api.Piece
	for rest := asRunes(format); rest != ""; {
		m := onePiece.FindStringSubmatch(rest)
		rest = rest[len(m[0]):]
		switch {
		case m[1] != "":
			list = append(list, api.Piece{Text: asBytes(m[1])})
		case m[2] != "":
			list = append(list, api.Piece{Verb: '%'})
		default:
			p := api.Piece{Verb: m[7][0]}
			for i, c := range marks {
				if strings.ContainsRune(m[3], c) {
					p.Flags += 1 << i
				}
			}
			p.WidthKind, p.Width = told(m[4])
			if m[5] != "" {
				p.PrecKind, p.Prec = told("0" + m[6])
			}
			list = append(list, p)
		}
	}
	return list
}

// told: the kind and the number of a star, of digits or of nothing; a zero ahead of a star doesn't count.
func told(text string) (int, int) {
	switch strings.TrimLeft(text, "0") {
	case "*":
		return api.HasStar, 0
	case "":
		if text == "" {
			return api.NoNumber, 0
		}
	}
	n, _ := strconv.Atoi(text)
	return api.HasNumber, n
}

// hold: Parse of this format is as the shapes say; whether it is taken.
func hold(t *testing.T, format string) bool {
	t.Helper()
	var want []api.Piece
	at, e := fault(format)
	if e == api.OK {
		want = split(format)
	}
	holdParse(t, format, want, at, e)
	return e == api.OK
}

// holdParse: Parse of this format is this, each piece in form.
func holdParse(t *testing.T, format string, want []api.Piece, at int, e api.Errno) {
	t.Helper()
	list, place, fault := directive.Parse(format)
	if !same(list, want) || place != at || fault != e {
		t.Fatalf("Parse(%q) = %v, %d, %d, want %v, %d, %d", format, list, place, fault, want, at, e)
	}
	for _, p := range list {
		if e := directive.Check(p); e != api.OK {
			t.Fatalf("Parse(%q): Check(%v) = %d", format, p, e)
		}
	}
}

// same: whether two lists hold the same pieces.
func same(a []api.Piece, b []api.Piece) bool {
	if len(a) != len(b) {
		return false
	}
	for i := range a {
		if a[i] != b[i] {
			return false
		}
	}
	return true
}
