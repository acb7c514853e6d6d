package token_test

import (
	"fmt"
	"slices"
	"sync"
	"testing"
	"unsafe"

	"abacus/token"
)

// shares: whether two texts lie in one memory, in part at least.
func shares(a string, b string) bool {
	if a == "" || b == "" {
		return false
	}
	p, q := uintptr(unsafe.Pointer(unsafe.StringData(a))), uintptr(unsafe.Pointer(unsafe.StringData(b)))
	return p < q+uintptr(len(b)) && q < p+uintptr(len(a))
}

const script = "BEGIN { x1 = length(\"text\") \"\\\"\" ; y += .5 }\nelse &&\n z\n"

// P2: no token's text is a piece of the text that was handed in, and Quote answers new memory too.
func TestNewMemory(t *testing.T) {
	for _, given := range []string{script, "x", "name", "\"t\"", "\"text\"", "+", "++", ";", "\n", "in", "int"} {
		s := string([]byte(given))
		list, _, _ := token.Lex(s)
		for _, one := range list {
			if shares(one.Text, s) {
				t.Errorf("Lex(%q): %q is a piece of it", s, one.Text)
			}
		}
		if shares(token.Quote(s), s) {
			t.Errorf("Quote(%q) answers a piece of it", s)
		}
	}
}

// P2: a text's memory that is written over behind the call doesn't change the tokens.
func TestTextsAreNotKept(t *testing.T) {
	memory := []byte(script)
	s := unsafe.String(&memory[0], len(memory))
	list, _, _ := token.Lex(s)
	quoted := token.Quote(s)
	for i := range memory {
		memory[i] = 'z'
	}
	if want, _, _ := token.Lex(script); !slices.Equal(list, want) {
		t.Errorf("%v, want %v", list, want)
	}
	if want := token.Quote(script); quoted != want {
		t.Errorf("%s, want %s", quoted, want)
	}
}

// P2: the same calls answer the same, whatever was called ahead of them or beside them, and whatever is written into what they answered.
func TestNothingIsKept(t *testing.T) {
	want := answers()
	var group sync.WaitGroup
	for range 8 {
		group.Go(func() {
			for range 100 {
				if got := answers(); got != want {
					t.Errorf("%s, then %s", want, got)
				}
			}
		})
	}
	group.Wait()
}

// answers: what some calls answer; the lists are cleared behind that, their spare room too.
func answers() string {
	var out string
	for _, s := range []string{script, "a & b", "\"", "\"\\q\"", "", "in", "sum", "{\n"} {
		list, at, e := token.Lex(s)
		text, ok := token.Number(uint64(len(s)))
		out += fmt.Sprint(list, at, e, token.Quote(s), text, ok, token.Func(s), token.Word(s))
		clear(list[:cap(list)])
	}
	return out
}
