package record

import (
	"iter"
	"strings"

	"abacus/api"
	"abacus/chars"
)

const blanks = "\t\n\v\f\r "

// lines goes through the records of a text.
func lines(text string, rs string) iter.Seq[string] {
	if rs == "" {
		return paragraphs(text)
	}
	return func(yield func(string) bool) {
		for from, to := range pieces(text, rs) {
			// Behind a separator at the text's end comes no record.
			if from == len(text) || !yield(text[from:to]) {
				return
			}
		}
	}
}

// paragraphs goes through the records between runs of two newlines or more. A run is cut two by two, so what is left of it stands at the heads of pieces, or is a piece of its own.
func paragraphs(text string) iter.Seq[string] {
	return func(yield func(string) bool) {
		for from, to := range pieces(text, "\n\n") {
			p := strings.Trim(text[from:to], "\n")
			if p != "" && !yield(p) {
				return
			}
		}
	}
}

// fields goes through the fields of a text. The last that may be goes on to the end: if no other would come behind it, it ends there anyway.
func fields(text string, fs string) iter.Seq[string] {
	return func(yield func(string) bool) {
		count := 0
		for from, to := range parts(text, fs) {
			count++
			if count == api.MaxFields {
				yield(rest(text[from:], fs))
				return
			}
			if !yield(text[from:to]) {
				return
			}
		}
	}
}

// rest: the last field of a text that has more than may be; its end belongs to it, but for blanks that part words.
func rest(text string, fs string) string {
	if fs == " " {
		return strings.TrimRight(text, blanks)
	}
	return text
}

// parts goes through all that fs parts in a text: of each part the place of its first byte, and the place behind its last.
func parts(text string, fs string) iter.Seq2[int, int] {
	switch fs {
	case " ":
		return words(text)
	case "":
		return single(text)
	}
	return pieces(text, fs)
}

// pieces goes through what stands ahead of, between and behind the places of sep, which isn't empty; the empty text has none.
func pieces(text string, sep string) iter.Seq2[int, int] {
	return func(yield func(int, int) bool) {
		from := 0
		for place := chars.Index(text, sep); place > 0; place = chars.Index(text[from:], sep) {
			to := from + place - 1
			if !yield(from, to) {
				return
			}
			from = to + len(sep)
		}
		if text != "" {
			yield(from, len(text))
		}
	}
}

// words goes through the longest runs of bytes that are no blanks.
func words(text string) iter.Seq2[int, int] {
	return func(yield func(int, int) bool) {
		for from := 0; from < len(text); {
			to := from
			for to < len(text) && !blank(text[to]) {
				to++
			}
			if to > from && !yield(from, to) {
				return
			}
			from = to + 1
		}
	}
}

// single goes through the bytes.
func single(text string) iter.Seq2[int, int] {
	return func(yield func(int, int) bool) {
		for at := range len(text) {
			if !yield(at, at+1) {
				return
			}
		}
	}
}

func blank(c byte) bool { return strings.IndexByte(blanks, c) >= 0 }
