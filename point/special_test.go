package point_test

import (
	"strings"
	"testing"

	"abacus/api"
	"abacus/point"
)

// specials: NaNs and infinities of both signs.
func specials() []uint64 {
	return []uint64{api.Inf, api.Inf | minus, api.NaN, api.NaN | minus, api.Inf + 1, api.Inf + 1 | minus, minus - 1, minus - 1 | minus, api.NaN - 1}
}

// P15.2: the document's examples.
func TestSpecialExamples(t *testing.T) {
	holdSpecial(t, spec("%06d"), api.Inf|minus, "  -inf", true, api.OK)
	holdSpecial(t, spec("%X"), api.NaN, "NAN", true, api.OK)
	holdSpecial(t, spec("%5000f"), api.One, "", false, api.ErrWide)
	for verb := range 256 {
		holdSpecial(t, api.Spec{Verb: byte(verb), Prec: -1}, api.One, "", false, api.OK)
	}
}

// P15.2: every byte as the verb, with all flags: in capitals just for four of them, and never padded with zeros.
func TestSpecialAll(t *testing.T) {
	for verb := range 256 {
		for flags := range 32 {
			for _, width := range []int{0, 3, 4, 5, 9} {
				s := api.Spec{Verb: byte(verb), Flags: flags, Width: width, Prec: flags - 1}
				for _, d := range specials() {
					name := "nan"
					if d&^minus == api.Inf {
						name = "inf"
					}
					if strings.Contains("EFGX", string(rune(verb))) {
						name = strings.ToUpper(name)
					}
					holdSpecial(t, s, d, laid(s, head(s, d), name, false), true, api.OK)
				}
			}
		}
	}
}

// P15.2: where Render renders, Special tells the same of a NaN and an infinity; of all others nothing.
func TestSpecialAsRender(t *testing.T) {
	seed := uint64(152)
	for range 20000 {
		s := api.Spec{Verb: verbs[between(&seed, 0, 5)], Flags: between(&seed, 0, 31), Width: between(&seed, 0, 20), Prec: between(&seed, -1, 9)}
		if seed%64 == 0 {
			s.Width, s.Prec = 4096, 4096
		}
		d := drawDouble(&seed)
		if d&api.Inf != api.Inf {
			holdSpecial(t, s, d, "", false, api.OK)
			continue
		}
		text, _ := point.Render(s, d)
		holdSpecial(t, s, d, text, true, api.OK)
	}
}

// P15.2: every exponent field: special just with the last.
func TestSpecialFields(t *testing.T) {
	for field := range uint64(2048) {
		for _, fraction := range []uint64{0, 1, 0xfffffffffffff} {
			for _, sign := range []uint64{0, minus} {
				_, is, e := point.Special(spec("%d"), sign|field<<52|fraction)
				if is != (field == 2047) || e != api.OK {
					t.Fatalf("field %d: %v, %d", field, is, e)
				}
			}
		}
	}
}

// P15.1, P15.2: raw Specs: the Verb first (Render alone), then the numbers' signs and the flags, then their size; ahead of the double.
func TestRawSpecs(t *testing.T) {
	for _, f := range []int{minInt, -32, -1, 0, 1, 16, 31, 32, 33, 64, 1 << 32, maxInt} {
		for _, w := range []int{minInt, -4097, -1, 0, 1, 4095, 4096, 4097, 1 << 32, maxInt} {
			for _, p := range []int{minInt, -4097, -2, -1, 0, 1, 4095, 4096, 4097, 1 << 32, maxInt} {
				e := api.OK
				if w > 4096 || p > 4096 {
					e = api.ErrWide
				}
				if f < 0 || f > 31 || w < 0 || p < -1 {
					e = api.ErrArg
				}
				for _, verb := range []byte(verbs + "\x00 %acdiosuxXDH\x7f\xe5\xff") {
					holdRaw(t, api.Spec{Verb: verb, Flags: f, Width: w, Prec: p}, e)
				}
			}
		}
	}
}

// holdRaw: both calls answer this error of the Spec's numbers, and Render another where it doesn't render the Verb.
func holdRaw(t *testing.T, s api.Spec, e api.Errno) {
	t.Helper()
	rendered := e
	if !strings.Contains(verbs, string(rune(s.Verb))) {
		rendered = api.ErrSpec
	}
	for _, d := range []uint64{0, api.One, api.Inf, api.NaN | minus} {
		text, got := point.Render(s, d)
		if got != rendered || (text == "") != (got != api.OK) {
			t.Fatalf("Render %+v of %016x: %q, error %d; want error %d", s, d, brief(text), got, rendered)
		}
		special, is, got := point.Special(s, d)
		if got != e || is != (e == api.OK && d >= api.Inf) || (special != "") != is {
			t.Fatalf("Special %+v of %016x: %q, %v, error %d; want error %d", s, d, brief(special), is, got, e)
		}
	}
}

// P15.1: every byte as the verb: six of them are rendered.
func TestVerbs(t *testing.T) {
	for verb := range 256 {
		s := api.Spec{Verb: byte(verb), Prec: -1}
		holdRaw(t, s, api.OK)
		s.Flags = 32
		holdRaw(t, s, api.ErrArg)
		s.Flags, s.Width = 0, 4097
		holdRaw(t, s, api.ErrWide)
	}
}
