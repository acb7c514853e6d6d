package render

import (
	"strings"

	"abacus/api"
	"abacus/directive"
	"abacus/ieee"
)

// writer goes through pieces. At a fault it gives up by panic.
type writer struct {
	args []api.Arg // those that are left
	out  strings.Builder
}

// fault is what a writer panics with, of a type of its own so that no other panic is taken for one.
type fault struct{ e api.Errno }

// giveUp leaves all the pieces with this error.
func giveUp(e api.Errno) { panic(fault{e}) }

// told: the error of a fault that was recovered; any other panic goes on.
func told(given any) api.Errno {
	f, ok := given.(fault)
	if !ok {
		panic(given)
	}
	return f.e
}

// checkAll gives up if one of the pieces isn't in form. All are looked at ahead of the first, since that counts more than any other fault.
func checkAll(pieces []api.Piece) {
	for _, p := range pieces {
		if e := directive.Check(p); e != api.OK {
			giveUp(e)
		}
	}
}

// rendered: what a piece in form writes.
func (w *writer) rendered(p api.Piece) string {
	switch p.Verb {
	case 0:
		return p.Text
	case '%':
		return "%"
	}
	if directive.Wants([]api.Piece{p}) > len(w.args) {
		giveUp(api.ErrFew)
	}
	// Both stars are asked for their kind ahead of their size.
	width, prec := w.star(p.WidthKind), w.star(p.PrecKind)
	s, e := directive.Settle(p, cut(width), cut(prec))
	if e != api.OK {
		giveUp(e)
	}
	text, e := One(s, w.next())
	if e != api.OK {
		giveUp(e)
	}
	return text
}

// next takes an argument; there is one.
func (w *writer) next() api.Arg {
	a := w.args[0]
	w.args = w.args[1:]
	return a
}

// star takes the number of a star; where there is none, no argument is taken and no number counts.
func (w *writer) star(kind int) uint64 {
	if kind != api.HasStar {
		return 0
	}
	a := w.next()
	if a.Text {
		giveUp(api.ErrKind)
	}
	return a.Num
}

// cut: a star's number cut to a whole one; how far it lies beyond the limit doesn't count.
func cut(d uint64) int {
	i, e := ieee.ToInt(d)
	switch {
	case e == api.ErrFinite:
		giveUp(api.ErrWide)
	case e == api.ErrRange && ieee.Decode(d).Neg:
		return -api.MaxWidth - 1
	case e == api.ErrRange:
		return api.MaxWidth + 1
	}
	return int(min(max(i, -api.MaxWidth-1), api.MaxWidth+1))
}

// write puts a text behind what has been made.
func (w *writer) write(text string) {
	if len(text) > api.MaxText-w.out.Len() {
		giveUp(api.ErrLong)
	}
	w.out.WriteString(text)
}
