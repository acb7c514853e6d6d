package code

import (
	"strconv"

	"abacus/api"
)

// mark: the first bytes of every code.
const mark = "ABC1"

// base: that of the numbers' digits; a digit with another one behind it has this added.
const base = 128

// hexDigits: the digits in base 16.
const hexDigits = "0123456789abcdef"

// writer makes bytes, up to MaxText of them.
type writer struct {
	made []byte
	long bool // there would be more
}

// room tells whether so many bytes more may be made. Once they may not, none may, so that nothing is left out in the midst.
func (w *writer) room(count int) bool {
	w.long = w.long || count > api.MaxText-len(w.made)
	return !w.long
}

func (w *writer) add(bytes ...byte) {
	if w.room(len(bytes)) {
		w.made = append(w.made, bytes...)
	}
}

func (w *writer) text(s string) {
	if w.room(len(s)) {
		w.made = append(w.made, s...)
	}
}

// number writes a number in base 128.
func (w *writer) number(n int) {
	for ; n >= base; n /= base {
		w.add(byte(n%base + base))
	}
	w.add(byte(n))
}

// doubles writes how many doubles there are, and each of them.
func (w *writer) doubles(list []uint64) {
	w.number(len(list))
	for _, d := range list {
		w.add(byte(d), byte(d>>8), byte(d>>16), byte(d>>24), byte(d>>32), byte(d>>40), byte(d>>48), byte(d>>56))
	}
}

// texts writes how many texts there are, and each with its length.
func (w *writer) texts(list []string) {
	w.number(len(list))
	for _, s := range list {
		w.number(len(s))
		w.text(s)
	}
}

// instrs writes how many instructions there are, and each with the fields that its word has.
func (w *writer) instrs(list []api.Instr) {
	t := words()
	w.number(len(list))
	for _, in := range list {
		w.add(byte(in.Word))
		for _, x := range t[in.Word].fields(in) {
			w.number(x)
		}
	}
}

// line lists the instruction at place i of a code.
func (w *writer) line(i int, in api.Instr, r row, c api.Code) {
	w.text(strconv.Itoa(i) + ": " + r.name)
	for _, x := range r.fields(in) {
		w.text(" " + strconv.Itoa(x))
	}
	switch r.a {
	case numPlace:
		w.add(' ')
		w.bits(c.Nums[in.A])
	case strPlace:
		w.add(' ')
		w.quoted(c.Strs[in.A])
	}
	w.add('\n')
}

// bits lists a double's 64 bits.
func (w *writer) bits(d uint64) {
	for shift := 60; shift >= 0; shift -= 4 {
		w.add(hexDigits[d>>shift&15])
	}
}

// quoted lists a text in quotes.
func (w *writer) quoted(s string) {
	w.add('"')
	// A text has no limit, so the rest of one that is too long isn't gone through.
	for i := 0; i < len(s) && !w.long; i++ {
		w.listed(s[i])
	}
	w.add('"')
}

// listed lists a byte of a text.
func (w *writer) listed(c byte) {
	if ' ' <= c && c <= '~' && c != '"' && c != '\\' {
		w.add(c)
		return
	}
	w.add('\\', 'x', hexDigits[c>>4], hexDigits[c&15])
}
