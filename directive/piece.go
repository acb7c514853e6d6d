package directive

import (
	"strconv"
	"strings"

	"abacus/api"
)

const (
	percent    = '%'
	verbs      = "diouxXcseEfFgG"
	pointVerbs = "eEfFgG"
	flagMarks  = "-+ #0" // in the order of the api's flags: mark i counts 1<<i
	allFlags   = 1<<len(flagMarks) - 1
)

// isText: whether p is a text in form.
func isText(p api.Piece) bool {
	return p.Text != "" && p == api.Piece{Text: p.Text} && strings.IndexByte(p.Text, percent) < 0
}

// isPercent: whether p is a percent in form.
func isPercent(p api.Piece) bool { return p == api.Piece{Verb: percent} }

// isDirective: whether p is a directive in form.
func isDirective(p api.Piece) bool {
	return strings.IndexByte(verbs, p.Verb) >= 0 && p.Text == "" &&
		p.Flags >= 0 && p.Flags <= allFlags &&
		isNumber(p.WidthKind, p.Width, 1) && isNumber(p.PrecKind, p.Prec, 0)
}

// isNumber: whether a width or a precision of this kind may be n, where least is the least that digits write.
func isNumber(kind int, n int, least int) bool {
	switch kind {
	case api.NoNumber, api.HasStar:
		return n == 0
	case api.HasNumber:
		return n >= least && n <= api.MaxWidth
	}
	return false
}

// written is a piece in form as a format has it.
func written(p api.Piece) string {
	switch p.Verb {
	case 0:
		return p.Text
	case percent:
		return "%%"
	}
	b := []byte{percent}
	for i := range len(flagMarks) {
		if p.Flags&(1<<i) != 0 {
			b = append(b, flagMarks[i])
		}
	}
	b = appendNumber(b, p.WidthKind, p.Width)
	if p.PrecKind != api.NoNumber {
		b = append(b, '.')
		b = appendNumber(b, p.PrecKind, p.Prec)
	}
	return string(append(b, p.Verb))
}

// appendNumber puts a width or a precision behind b.
func appendNumber(b []byte, kind int, n int) []byte {
	switch kind {
	case api.HasNumber:
		return strconv.AppendInt(b, int64(n), 10)
	case api.HasStar:
		return append(b, '*')
	}
	return b
}

// plain is what texts and percents print.
func plain(pieces []api.Piece) string {
	var b strings.Builder
	for _, p := range pieces {
		if p.Verb == percent {
			b.WriteByte(percent)
		} else {
			b.WriteString(p.Text)
		}
	}
	return b.String()
}
