package whole_test

import (
	"strings"
	"testing"

	"abacus/api"
	"abacus/whole"
)

// P14.4: the document's examples of c, bytes of all kinds, and a precision that doesn't count.
func TestCharExamples(t *testing.T) {
	for _, c := range []struct{ spec, text, want string }{
		{"%c", "abc", "a"}, {"%3c", "abc", "  a"}, {"%-3c", "abc", "a  "}, {"%03c", "abc", "  a"}, {"%-03c", "abc", "a  "}, {"%c", "", ""}, {"%2c", "", "  "}, {"%-2c", "", "  "}, {"%02c", "", "  "},
		{"%.0c", "abc", "a"}, {"%.2c", "abc", "a"}, {"%5.0c", "abc", "    a"}, {"%.4096c", "", ""}, {"%+ #c", "abc", "a"}, {"%1c", "abc", "a"},
		{"%c", "é", "\xc3"}, {"%2c", "\x00", " \x00"}, {"%c", "%d", "%"},
	} {
		s := spec(c.spec)
		got, e := whole.Char(s, c.text)
		hold(t, s, c.text, got, e, c.want)
	}
	for b := range 256 {
		for _, behind := range []string{"", "x", "\x80\x80"} {
			s := spec("%2c")
			got, e := whole.Char(s, string([]byte{byte(b)})+behind)
			hold(t, s, b, got, e, " "+string([]byte{byte(b)}))
		}
	}
}

// P14.4: the document's examples of s, and cuts that look at bytes alone.
func TestTextExamples(t *testing.T) {
	for _, c := range []struct{ spec, text, want string }{
		{"%s", "abc", "abc"}, {"%.2s", "abc", "ab"}, {"%5.2s", "abc", "   ab"}, {"%-5.2s", "abc", "ab   "}, {"%-5s", "abc", "abc  "}, {"%05s", "abc", "  abc"}, {"%-05s", "abc", "abc  "}, {"%.0s", "abc", ""}, {"%3.0s", "abc", "   "},
		{"%.3s", "abc", "abc"}, {"%.4s", "abc", "abc"}, {"%.4096s", "abc", "abc"}, {"%2s", "abc", "abc"}, {"%3s", "abc", "abc"}, {"%4s", "abc", " abc"}, {"%s", "", ""}, {"%3s", "", "   "}, {"%.2s", "", ""}, {"%+ #s", "abc", "abc"},
		{"%.1s", "é", "\xc3"}, {"%3s", "é", " é"}, {"%.3s", "\x00\xff\x00\xff", "\x00\xff\x00"}, {"%s", "%d%%", "%d%%"},
	} {
		s := spec(c.spec)
		got, e := whole.Text(s, c.text)
		hold(t, s, c.text, got, e, c.want)
	}
}

// P14.4: all flags at all small widths, precisions and lengths: zeros never stand, a head neither.
func TestTextsAll(t *testing.T) {
	const text = "0a b-+"
	for _, s := range specs('s', 8, 7) {
		for n := range len(text) + 1 {
			want := text[:n]
			if s.Prec >= 0 && n > s.Prec {
				want = text[:s.Prec]
			}
			got, e := whole.Text(s, text[:n])
			hold(t, s, text[:n], got, e, laid(s, "", want, false))
			c := s
			c.Verb, want = 'c', text[:min(n, 1)]
			got, e = whole.Char(c, text[:n])
			hold(t, c, text[:n], got, e, laid(c, "", want, false))
		}
	}
}

// P14.4: long texts: what counts is the length of what is made; a Spec's errors come first.
func TestTextsLong(t *testing.T) {
	full := strings.Repeat("xy", api.MaxText/2)
	over := full + "z"
	for _, c := range []struct{ spec, text, want string }{
		{"%s", full, full}, {"%-4096s", full, full}, {"%4096s", full[:4095], " " + full[:4095]}, {"%-4096s", full[:4095], full[:4095] + " "}, {"%4096s", full[:4097], full[:4097]}, {"%.4096s", full, full[:4096]}, {"%.4095s", full, full[:4095]}, {"%.3s", over, "xyx"}, {"%.4096s", over, full[:4096]}, {"%5.3s", over, "  xyx"}, {"%.0s", over, ""}, {"%4096s", "", strings.Repeat(" ", 4096)},
	} {
		s := spec(c.spec)
		got, e := whole.Text(s, c.text)
		hold(t, s, len(c.text), got, e, c.want)
	}
	for s, want := range map[api.Spec]api.Errno{
		{Verb: 's', Prec: -1}: api.ErrLong, {Verb: 's', Flags: 31, Width: 4096, Prec: -1}: api.ErrLong,
		{Verb: 's', Width: 4097, Prec: -1}: api.ErrWide, {Verb: 's', Prec: 4097}: api.ErrWide, {Verb: 's', Flags: -1, Prec: -1}: api.ErrArg, {Verb: 's', Width: 4097, Prec: -2}: api.ErrArg, {Verb: 'c', Prec: -1}: api.ErrSpec, {Prec: -2}: api.ErrSpec,
	} {
		for _, text := range []string{over, over + full} {
			got, e := whole.Text(s, text)
			refuse(t, "a long Text", s, got, e, want)
		}
	}
	s := spec("%-4096c")
	got, e := whole.Char(s, over)
	hold(t, s, len(over), got, e, "x"+strings.Repeat(" ", 4095))
}
