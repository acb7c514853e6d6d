package token

import (
	"strings"

	"abacus/api"
)

// letters: those that stand behind a backslash for the bytes 07 to 0d, in their order.
const letters = "abtnvfr"

// quoted reads the text in quotes that begins at the place that comes next.
func (r *reader) quoted() {
	var text []byte
	for at := r.at + 1; !cutOff(r.text, at); {
		if r.text[at] == '"' {
			r.add(api.TokString, string(text), 0, at+1)
			return
		}
		c, used := meant(r.text, at)
		if used == 0 {
			r.refuse(at, api.ErrEscape)
			return
		}
		text = append(text, c)
		at += used
	}
	r.refuse(r.at, api.ErrQuote)
}

// cutOff tells whether the text ends, or its line does, at a place of s.
func cutOff(s string, at int) bool { return at == len(s) || s[at] == '\n' }

// meant is the byte that is meant at a place of a text in quotes, and how many bytes that used; 0 bytes if it is an escape that is none.
func meant(s string, at int) (byte, int) {
	// A backslash that is cut off goes for itself: the text is refused right behind it, for want of its end.
	if s[at] != '\\' || cutOff(s, at+1) {
		return s[at], 1
	}
	c, used := escaped(s[at+1:])
	if used == 0 {
		return 0, 0
	}
	return c, 1 + used
}

// escaped is the byte that an escape stands for, read from behind its backslash, and how many bytes that used; 0 bytes if it is none.
func escaped(s string) (byte, int) {
	c := s[0]
	if i := strings.IndexByte(letters, c); i >= 0 {
		return '\a' + byte(i), 1
	}
	switch {
	case c == '"', c == '\\', c == '/':
		return c, 1
	case octal(c):
		return numbered(s)
	}
	return 0, 0
}

// numbered is the byte whose number the digits of base 8 at the head of s are, up to three, and how many they are.
func numbered(s string) (byte, int) {
	number, used := byte(0), 0
	for used < 3 && used < len(s) && octal(s[used]) {
		// A byte's wrap-round is the modulo 256 that is asked for.
		number = number*8 + s[used] - '0'
		used++
	}
	return number, used
}

func octal(c byte) bool { return '0' <= c && c <= '7' }

// appendByte adds c to a text in quotes, as it stands there.
func appendByte(out []byte, c byte) []byte {
	switch {
	case c == '"', c == '\\':
		return append(out, '\\', c)
	case '\a' <= c && c <= '\r':
		return append(out, '\\', letters[c-'\a'])
	case ' ' <= c && c <= '~':
		return append(out, c)
	}
	// Always three digits, so that a digit right behind is none of them.
	return append(out, '\\', '0'+c>>6, '0'+c>>3&7, '0'+c&7)
}
