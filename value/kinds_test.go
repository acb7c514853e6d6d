package value_test

import (
	"strings"
	"testing"

	"abacus/api"
	"abacus/value"
)

// P17.1: a number keeps its bits, whatever they are.
func TestNum(t *testing.T) {
	seed := uint64(171)
	for _, d := range append(ends(), random(&seed), random(&seed)) {
		for _, d := range []uint64{d, d | minus} {
			holdValue(t, "Num", value.Num(d), api.Value{Kind: api.KindNum, Num: d})
		}
	}
}

// P17.1: a string is its bytes; one that looks like a number is a string all the same, of any length.
func TestStr(t *testing.T) {
	long := strings.Repeat("x", api.MaxText+1)
	for _, s := range []string{"", "x", "7", " 12 ", "-0", "1e5", "nan", "\x00", "\xff\xfe", "caf\xc3\xa9", "\n", long} {
		holdValue(t, "Str", value.Str(s), api.Value{Kind: api.KindStr, Str: s})
	}
}

// P17.1: each kind keeps what counts in it and nothing else; a Kind that is none of the four is no value.
func TestPlain(t *testing.T) {
	seed := uint64(1711)
	for _, s := range []string{"", "x", "12", " 0 ", "\xff"} {
		for _, d := range append(ends(), minus, minus|api.NaN, random(&seed)) {
			for kind, want := range []api.Value{{}, {Kind: 1, Num: d}, {Kind: 2, Str: s}, {Kind: 3, Num: d, Str: s}} {
				holdValue(t, "Plain", value.Plain(api.Value{Kind: kind, Num: d, Str: s}), want)
				holdValue(t, "Plain of a plain one", value.Plain(want), want)
			}
			for _, kind := range wrongKinds() {
				holdValue(t, "Plain", value.Plain(api.Value{Kind: kind, Num: d, Str: s}), api.Value{})
			}
		}
	}
}

// P17.1: just a string isn't numeric, whatever the fields hold.
func TestNumeric(t *testing.T) {
	for _, s := range []string{"", "x", "12"} {
		for _, d := range []uint64{0, minus, api.One, api.NaN, api.Inf} {
			for kind := range 4 {
				if got := value.Numeric(api.Value{Kind: kind, Num: d, Str: s}); got != (kind != api.KindStr) {
					t.Errorf("Numeric of {%d %016x %q}: %v", kind, d, s, got)
				}
			}
			for _, kind := range wrongKinds() {
				if !value.Numeric(api.Value{Kind: kind, Num: d, Str: s}) {
					t.Errorf("Numeric of {%d %016x %q}: false", kind, d, s)
				}
			}
		}
	}
	if !value.Numeric(value.Input("1")) || value.Numeric(value.Input("1a")) || value.Numeric(value.Str("1")) || !value.Numeric(value.Num(1)) {
		t.Error("Numeric of what Input, Str and Num answer")
	}
}
