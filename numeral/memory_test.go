package numeral_test

import (
	"slices"
	"strings"
	"testing"
	"unsafe"

	"abacus/api"
	"abacus/numeral"
)

// scribble writes over a list and its spare room.
func scribble(a []uint64) {
	a = a[:cap(a)]
	for i := range a {
		a[i] = 0x5c5c5c5c
	}
}

// P3.6: naturals that are handed in stay as they are, their spare room too.
func TestOperandsStay(t *testing.T) {
	lists := append(append(samples(), zeros()...), fill(300, top), fill(api.MaxLimbs+1, top))
	for _, x := range lists {
		memory := append(slices.Clone(x), 0xabc, 0xdef, top, 1, 2, 3)
		before := slices.Clone(memory)
		a := memory[:len(x)]
		numeral.Digits(a)
		numeral.Count(a)
		for _, base := range []int{1, 2, 10, 16, 36} {
			numeral.InBase(a, base, true)
		}
		if !slices.Equal(memory, before) {
			t.Fatalf("an operand was changed: %.60v", x)
		}
	}
}

// P3.6: each natural that is answered is new memory: writing over one doesn't touch another, nor what is answered later.
func TestAnswersAreNew(t *testing.T) {
	for _, s := range []string{"0", "7", "00012", "18446744073709551615", "18446744073709551616", strings.Repeat("9", 500)} {
		for _, base := range []int{10, 16, 36} {
			first, _, _ := numeral.FromBase(s, base)
			want := slices.Clone(first)
			second, _, _ := numeral.FromBase(s, base)
			scribble(first)
			if !slices.Equal(second, want) {
				t.Fatalf("two answers of %q share memory", brief(s))
			}
			scribble(second)
			if third, _, _ := numeral.FromBase(s, base); !slices.Equal(third, want) {
				t.Fatalf("an answer of %q hangs on an earlier one's memory", brief(s))
			}
		}
	}
}

// P3.6: what Round answers is no piece of the row that it was handed.
func TestRoundAnswersNewText(t *testing.T) {
	for _, digits := range []string{"12", "1234567890", strings.Repeat("123456789", 100)} {
		for _, keep := range []int{2, len(digits) - 1, len(digits), len(digits) + 1, maxInt} {
			for _, more := range []bool{false, true} {
				got, _, _ := numeral.Round(digits, keep, more)
				from := uintptr(unsafe.Pointer(unsafe.StringData(digits)))
				at := uintptr(unsafe.Pointer(unsafe.StringData(got)))
				if len(got) > 0 && at >= from && at < from+uintptr(len(digits)) {
					t.Errorf("Round(%q, %d, %v) answers memory of the row", brief(digits), keep, more)
				}
			}
		}
	}
}
