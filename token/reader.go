package token

import (
	"strings"

	"abacus/api"
	"abacus/scan"
	"abacus/strtod"
)

// reader goes through a text from the left.
type reader struct {
	text  string
	at    int // the place that is read next
	made  []api.Token
	fault api.Errno
	place int // of the fault
}

// step reads the token, or what stands between two, at the place that comes next.
func (r *reader) step() {
	c, next := r.peek(0), r.peek(1)
	switch {
	case c == '\n':
		r.newline()
	case scan.Blank(c):
		r.at++
	case c == '#':
		r.at = pastRemark(r.text, r.at)
	case c == '\\' && next == '\n':
		r.at += 2
	case c == ';':
		r.mark(api.TokLine, 1)
	case digit(c), c == '.' && digit(next):
		r.number()
	case inName(c):
		r.word()
	case c == '"':
		r.quoted()
	default:
		r.operator(c, next)
	}
}

// peek is the byte so many places ahead. Behind the end it is 0, which no token has outside of its quotes.
func (r *reader) peek(ahead int) byte {
	if r.at+ahead < len(r.text) {
		return r.text[r.at+ahead]
	}
	return 0
}

// add makes a token that ends at this place, and goes on behind it.
func (r *reader) add(kind int, text string, num uint64, end int) {
	r.made = append(r.made, api.Token{Kind: kind, Text: text, Num: num, At: r.at, End: end})
	r.at = end
}

// mark makes a token whose text is its own bytes, so many.
func (r *reader) mark(kind int, count int) {
	end := r.at + count
	// The token has bytes of its own: a piece would hold the whole script, and change with it.
	r.add(kind, strings.Clone(r.text[r.at:end]), 0, end)
}

// refuse notes the fault, which ends the reading.
func (r *reader) refuse(place int, fault api.Errno) {
	r.place, r.fault = place, fault
}

// newline ends a line, unless what stands ahead of it can't be a line's end.
func (r *reader) newline() {
	if r.goesOn() {
		r.at++
		return
	}
	r.mark(api.TokLine, 1)
}

// goesOn tells whether the last token lets newlines by.
func (r *reader) goesOn() bool {
	if len(r.made) == 0 {
		return false
	}
	last := r.made[len(r.made)-1]
	switch last.Kind {
	case api.TokKeyword:
		return last.Text == "else"
	case api.TokOp:
		return last.Text == "{" || last.Text == "&&" || last.Text == "||" || last.Text == ","
	}
	return false
}

func (r *reader) number() {
	d, used := strtod.Parse(r.text[r.at:])
	r.add(api.TokNumber, "", d, r.at+used)
}

func (r *reader) word() {
	count := pastWord(r.text, r.at) - r.at
	r.mark(Word(r.text[r.at:r.at+count]), count)
}

func (r *reader) operator(c byte, next byte) {
	switch {
	case double(c, next):
		r.mark(api.TokOp, 2)
	case strings.IndexByte("+-*/%^!<>=?:,$()[]{}", c) >= 0:
		r.mark(api.TokOp, 1)
	default:
		r.refuse(r.at, api.ErrByte)
	}
}

// double tells whether two bytes are one operator.
func double(c byte, next byte) bool {
	if next == '=' {
		return strings.IndexByte("+-*/%^=<>!", c) >= 0
	}
	return c == next && strings.IndexByte("+-&|", c) >= 0
}

// pastRemark is the place of the newline that ends the remark at a place of s, or the end.
func pastRemark(s string, at int) int {
	if count := strings.IndexByte(s[at:], '\n'); count >= 0 {
		return at + count
	}
	return len(s)
}

// pastWord is the place behind the letters, digits and _ that stand at a place of s.
func pastWord(s string, at int) int {
	for at < len(s) && inName(s[at]) {
		at++
	}
	return at
}

// inName tells whether c may stand in a name (a digit only behind its first byte).
func inName(c byte) bool {
	return 'a' <= c && c <= 'z' || 'A' <= c && c <= 'Z' || c == '_' || digit(c)
}

func digit(c byte) bool { return '0' <= c && c <= '9' }
