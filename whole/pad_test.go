package whole_test

import (
	"strings"
	"testing"

	"abacus/api"
	"abacus/whole"
)

// P14.1: the document's examples, and what is as wide as asked for or wider.
func TestPadExamples(t *testing.T) {
	for _, c := range []struct {
		flags int
		width int
		head  string
		body  string
		zeros bool
		want  string
	}{
		{api.ZeroPad, 6, "-", "42", true, "-00042"},
		{api.ZeroPad | api.Minus, 6, "-", "42", true, "-42   "},
		{0, 6, "-", "42", true, "   -42"},
		{api.ZeroPad, 6, "-", "42", false, "   -42"},
		{api.ZeroPad, 3, "-", "42", true, "-42"}, {api.Minus, 3, "-", "42", true, "-42"}, {0, 3, "-", "42", true, "-42"},
		{api.ZeroPad, 4, "-", "42", true, "-042"}, {api.Minus, 4, "-", "42", true, "-42 "}, {0, 4, "-", "42", true, " -42"},
		{api.ZeroPad, 2, "-", "42", true, "-42"}, {api.Minus, 0, "-", "42", true, "-42"}, {0, 0, "", "", true, ""},
		{api.ZeroPad, 3, "", "", true, "000"}, {api.ZeroPad, 3, "", "", false, "   "}, {api.Minus, 3, "", "", true, "   "}, {0, 3, "", "", true, "   "},
		{api.ZeroPad, 4, "0x", "", true, "0x00"}, {api.ZeroPad, 4, "", "ff", true, "00ff"},
		{api.ZeroPad, 5, "\x00", "\xff", true, "\x00000\xff"}, {0, 4, "é", "", true, "  é"},
	} {
		s := api.Spec{Flags: c.flags, Width: c.width, Prec: 3}
		got, e := whole.Pad(s, c.head, c.body, c.zeros)
		hold(t, s, c.head+"|"+c.body, got, e, c.want)
	}
}

// P14.1: all flags, with and without zeros, at every small width and every small head and body.
func TestPadAll(t *testing.T) {
	for _, s := range specs(0, 9, -1) {
		for h := range 5 {
			for b := range 6 {
				head, body := "+-#x"[:h], "12345"[:b]
				for _, zeros := range []bool{false, true} {
					got, e := whole.Pad(s, head, body, zeros)
					hold(t, s, head+"|"+body, got, e, laid(s, head, body, zeros))
				}
			}
		}
	}
}

// P14.1: widths up to the limit.
func TestPadWide(t *testing.T) {
	for _, width := range []int{100, 4094, 4095, 4096} {
		for flags := range 32 {
			s := api.Spec{Flags: flags, Width: width, Prec: -1}
			for _, body := range []string{"", "7", strings.Repeat("8", width-2), strings.Repeat("8", width-1), strings.Repeat("8", width), strings.Repeat("8", 5000)} {
				got, e := whole.Pad(s, "-", body, true)
				hold(t, s, len(body), got, e, laid(s, "-", body, true))
			}
		}
	}
}

// P14.1: Verb, Prec and the flags but Minus and ZeroPad don't count.
func TestPadLooksAtWidthAlone(t *testing.T) {
	for flags := range 32 {
		want, _ := whole.Pad(api.Spec{Flags: flags & (api.Minus | api.ZeroPad), Width: 9, Prec: -1}, "-", "42", true)
		for verb := range 256 {
			for _, prec := range []int{-1, 0, 1, 20, 4096} {
				s := api.Spec{Verb: byte(verb), Flags: flags, Width: 9, Prec: prec}
				got, e := whole.Pad(s, "-", "42", true)
				hold(t, s, 42, got, e, want)
			}
		}
	}
}

// P14.1: texts up to the limit, together and each alone; a Spec's errors come first.
func TestPadLong(t *testing.T) {
	full := strings.Repeat("x", api.MaxText)
	for _, c := range []struct{ head, body string }{{full, ""}, {"", full}, {full[1:], "y"}, {"y", full[1:]}, {full[:1<<23], full[1<<23:]}} {
		s := api.Spec{Flags: api.ZeroPad, Width: 4096, Prec: -1}
		got, e := whole.Pad(s, c.head, c.body, true)
		if got != c.head+c.body || e != api.OK {
			t.Errorf("of %d and %d bytes: %d bytes, %d", len(c.head), len(c.body), len(got), e)
		}
	}
	over := full + "x"
	for _, c := range []struct{ head, body string }{{full, "y"}, {"y", full}, {over, ""}, {"", over}, {over, over}, {full, full}, {full[:1<<23], full[:1<<23+1]}} {
		for s, want := range map[api.Spec]api.Errno{
			{Width: 4096, Prec: -1}: api.ErrLong, {Flags: 31, Prec: 4096}: api.ErrLong,
			{Width: 4097}: api.ErrWide, {Prec: 4097}: api.ErrWide, {Flags: 32}: api.ErrArg, {Width: -1}: api.ErrArg, {Prec: -2}: api.ErrArg,
		} {
			got, e := whole.Pad(s, c.head, c.body, true)
			refuse(t, "a long Pad", s, got, e, want)
		}
	}
}

// P14.1 to P14.4: raw Specs at every call: the Verb first, then the numbers' signs and the flags, then their size.
func TestRawSpecs(t *testing.T) {
	for s, want := range rawSpecs() {
		for _, verb := range []byte("\x00 %acdeEfFgGiosuxXDIOCSU\x7f\x80\xe4\xff") {
			s.Verb = verb
			got, e := whole.Pad(s, "-", "1", true)
			holdError(t, "Pad", s, got, e, want)
			got, e = whole.Signed(s, true, []uint64{1})
			holdError(t, "Signed", s, got, e, among("di", verb, want))
			got, e = whole.Unsigned(s, 1)
			holdError(t, "Unsigned", s, got, e, among("ouxX", verb, want))
			got, e = whole.Char(s, "a")
			holdError(t, "Char", s, got, e, among("c", verb, want))
			got, e = whole.Text(s, "ab")
			holdError(t, "Text", s, got, e, among("s", verb, want))
		}
	}
	for verb := range 256 {
		s := api.Spec{Verb: byte(verb), Flags: 99, Width: -1, Prec: 9999}
		got, e := whole.Signed(s, true, limbs(4097, 1))
		holdError(t, "Signed", s, got, e, among("di", s.Verb, api.ErrArg))
		got, e = whole.Unsigned(s, 1)
		holdError(t, "Unsigned", s, got, e, among("ouxX", s.Verb, api.ErrArg))
		got, e = whole.Char(s, "a")
		holdError(t, "Char", s, got, e, among("c", s.Verb, api.ErrArg))
		got, e = whole.Text(s, "ab")
		holdError(t, "Text", s, got, e, among("s", s.Verb, api.ErrArg))
	}
}

// among: ErrSpec if the verb is none of these, else e.
func among(verbs string, verb byte, e api.Errno) api.Errno {
	if strings.IndexByte(verbs, verb) < 0 {
		return api.ErrSpec
	}
	return e
}

// holdError: the error is want, and beside one there is no text.
func holdError(t *testing.T, what string, s api.Spec, got string, e api.Errno, want api.Errno) {
	t.Helper()
	if e != want || e != api.OK && got != "" {
		t.Fatalf("%s by %+v: %q, error %d, want %d", what, s, brief(got), e, want)
	}
}
