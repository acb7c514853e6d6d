package spell_test

import (
	"fmt"
	"slices"
	"strings"
	"sync"
	"testing"
	"unsafe"

	"abacus/api"
	"abacus/spell"
)

// shares: whether two texts lie in one memory, in part at least.
func shares(a string, b string) bool {
	if a == "" || b == "" {
		return false
	}
	p, q := uintptr(unsafe.Pointer(unsafe.StringData(a))), uintptr(unsafe.Pointer(unsafe.StringData(b)))
	return p < q+uintptr(len(b)) && q < p+uintptr(len(a))
}

// P19.4: what is answered is no piece of a text that was handed in.
func TestNewMemory(t *testing.T) {
	for _, given := range []string{"a", "text", strings.Repeat("long", 500)} {
		text := strings.Clone(given)
		for _, v := range []api.Value{str(text), strnum(1, text)} {
			for verb := range 256 {
				if a, _ := spell.Arg("%g", byte(verb), v); shares(a.Str, text) {
					t.Errorf("Arg by the byte %d answers a piece of its text", verb)
				}
			}
			for _, format := range []string{"%s", "%c", "%.1s", "%3s", "%-9.4s", "%.0s%s"} {
				if got, _ := spell.Sprintf("%g", format, v, v); shares(got, text) {
					t.Errorf("Sprintf of %s answers a piece of its text", format)
				}
			}
			if got, _ := spell.Line("%g", "", "", v); shares(got, text) {
				t.Error("Line answers its value's text")
			}
			if got, _ := spell.Line("%g", "", "", api.Value{}, v, api.Value{}); shares(got, text) {
				t.Error("Line answers one of its values' texts")
			}
		}
		if got, _ := spell.Sprintf("%g", text); shares(got, text) {
			t.Error("Sprintf answers its own format")
		}
		if got, _ := spell.Line("%g", text, "", api.Value{}, api.Value{}); shares(got, text) {
			t.Error("Line answers its ofs")
		}
		if got, _ := spell.Line("%g", "", text); shares(got, text) {
			t.Error("Line answers its ors")
		}
	}
}

// P19.4: the values that are handed in stay as they are, their list's spare room too, whether the call is refused or not.
func TestValuesStay(t *testing.T) {
	seed := uint64(194)
	for range 5000 {
		all := drawList(&seed, 12)
		before := slices.Clone(all)
		vals := all[2:between(&seed, 2, 10)]
		spell.Sprintf(pick(&seed, "%g", "%d"), "%*.*d%s%c|%.*s", vals...)
		spell.Line(pick(&seed, "%g", "%d"), ",", ";", vals...)
		if !slices.Equal(all, before) {
			t.Fatalf("a list was changed: %s", show(before...))
		}
	}
}

// P19.4: a list or a text's memory that is written over behind the call doesn't change the answer.
func TestValuesAreNotKept(t *testing.T) {
	memory := []byte("bbbb")
	text := unsafe.String(&memory[0], len(memory))
	vals := []api.Value{str(text), num(3), strnum(1, text)}
	a, _ := spell.Sprintf("%g", "%s%d%s", vals...)
	b, _ := spell.Line("%g", text, text, vals...)
	c, _ := spell.Arg("%g", 's', vals[0])
	d, _ := spell.Sprintf("%g", text)
	clear(vals)
	copy(memory, "zzzz")
	if got := fmt.Sprint(a, b, c.Str, d); got != "bbbb3bbbb"+"bbbbbbbb3bbbbbbbbbbbb"+"bbbb"+"bbbb" {
		t.Errorf("an answer changed: %s", got)
	}
}

// P19.4: the same call answers the same, whatever was called ahead of it or beside it.
func TestNothingIsKept(t *testing.T) {
	want := answers()
	var group sync.WaitGroup
	for range 8 {
		group.Go(func() {
			for range 100 {
				if got := answers(); got != want {
					t.Errorf("%s, then %s", want, got)
				}
			}
		})
	}
	group.Wait()
}

// answers: what some calls answer, refused ones among them.
func answers() string {
	var list []any
	vals := []api.Value{str("b"), num(2), pattern(api.NaN), {}, str("7x"), strnum(2, "2.0"), num(0.5)}
	for i, v := range vals {
		for _, convfmt := range []string{"%d", "%.3g", ""} {
			a, e := spell.Arg(convfmt, 's', v)
			b, f := spell.Sprintf(convfmt, "%s|%*d|%c", vals[i:]...)
			c, g := spell.Line(convfmt, ",", ";", vals[:i]...)
			list = append(list, a, e, b, f, c, g)
		}
	}
	return fmt.Sprint(list...)
}
