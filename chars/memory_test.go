package chars_test

import (
	"fmt"
	"slices"
	"strings"
	"sync"
	"testing"
	"unsafe"

	"abacus/api"
	"abacus/chars"
)

// shares: whether two texts lie in one memory, in part at least.
func shares(a string, b string) bool {
	if a == "" || b == "" {
		return false
	}
	p, q := uintptr(unsafe.Pointer(unsafe.StringData(a))), uintptr(unsafe.Pointer(unsafe.StringData(b)))
	return p < q+uintptr(len(b)) && q < p+uintptr(len(a))
}

// made: all the texts that the calls answer which can answer s or a piece of it.
func made(s string) map[string][]string {
	one := func(text string, _ api.Errno) []string { return []string{text} }
	counted := func(text string, _ int, _ api.Errno) []string { return []string{text} }
	return map[string][]string{
		"Substr":               {chars.Substr(s, api.One, api.Inf), chars.Substr(s, bits(2), bits(2))},
		"From":                 {chars.From(s, 0), chars.From(s, bits(2))},
		"Lower":                {chars.Lower(s)},
		"Upper":                {chars.Upper(s)},
		"Split by a blank":     chars.Split(s, " "),
		"Split by nothing":     chars.Split(s, ""),
		"Split by a text":      chars.Split(s, "e"),
		"Split by another":     chars.Split(s, "?"),
		"Join of one":          one(chars.Join([]string{s}, "-")),
		"Join by itself":       one(chars.Join([]string{"", ""}, s)),
		"Cat of one":           one(chars.Cat(s)),
		"Cat with nothing":     one(chars.Cat("", s, "")),
		"Replace of none":      counted(chars.Replace(s, "?", "!", -1)),
		"Replace no times":     counted(chars.Replace(s, "e", "!", 0)),
		"Replace by nothing":   counted(chars.Replace(s, "", "", -1)),
		"Replace by itself":    counted(chars.Replace(s, s, s, -1)),
		"Replace of the empty": counted(chars.Replace("", "", s, -1)),
	}
}

// P2: no answer is a piece of a text that was handed in, and no two parts of one answer lie in one another.
func TestNewMemory(t *testing.T) {
	for _, given := range []string{"e", "te t", strings.Repeat("text ", 500)} {
		s := strings.Clone(given)
		for name, list := range made(s) {
			for i, text := range list {
				if shares(text, s) {
					t.Errorf("%s answers a piece of its text", name)
				}
				if i > 0 && shares(text, list[i-1]) {
					t.Errorf("%s: parts %d and %d share memory", name, i-1, i)
				}
			}
		}
	}
}

// P2: a text's memory that is written over behind the call doesn't change the answer.
func TestTextsAreNotKept(t *testing.T) {
	memory := []byte("b e b")
	before := made("b e b")
	after := made(unsafe.String(&memory[0], len(memory)))
	copy(memory, "zzzzz")
	for name, list := range after {
		if !slices.Equal(list, before[name]) {
			t.Errorf("%s: %q became %q", name, before[name], list)
		}
	}
}

// P2: the lists that are handed in stay as they are, their spare room too, whether the call is refused or not.
func TestListsStay(t *testing.T) {
	seed := uint64(206)
	long := row(1 << 24)
	for range 5000 {
		all := make([]string, 12)
		for i := range all {
			all[i] = draw(&seed, 4)
		}
		all[between(&seed, 0, 11)] = pick(&seed, "", long)
		before := slices.Clone(all)
		parts := all[2:between(&seed, 2, 4)]
		chars.Join(parts, "-")
		chars.Cat(parts...)
		if !slices.Equal(all, before) {
			t.Fatal("a list was changed")
		}
	}
}

// P2: two answers of one call share no list: what is written into one stays out of the other.
func TestListsAreNew(t *testing.T) {
	for _, sep := range []string{" ", "", ","} {
		first, second := chars.Split("a b,c", sep), chars.Split("a b,c", sep)
		want := slices.Clone(second)
		clear(first[:cap(first)])
		if !slices.Equal(second, want) {
			t.Errorf("by %q: %q became %q", sep, want, second)
		}
	}
}

// P2: the same call answers the same, whatever was called ahead of it or beside it.
func TestNothingIsKept(t *testing.T) {
	want := answers()
	var group sync.WaitGroup
	for range 8 {
		group.Go(func() {
			for range 100 {
				if got := answers(); got != want {
					t.Errorf("%s, then %s", want, got)
				}
			}
		})
	}
	group.Wait()
}

// answers: what some calls answer.
func answers() string {
	var list []any
	for _, s := range []string{"", "Banana", " a b\tc ", "\xc3\xa9"} {
		for _, sep := range []string{"", " ", "an", "a"} {
			a, e := chars.Join(chars.Split(s, sep), "|")
			b, n, f := chars.Replace(s, sep, "<>", 2)
			list = append(list, chars.Index(s, sep), a, e, b, n, f)
		}
		list = append(list, chars.Lower(s), chars.Upper(s), chars.Substr(s, bits(1.5), bits(2)), chars.From(s, bits(2)))
	}
	return fmt.Sprint(list...)
}
