package directive_test

import (
	"testing"
	"unsafe"

	"abacus/api"
	"abacus/directive"
)

// shares: whether two texts lie in one memory, in part at least.
func shares(a string, b string) bool {
	if a == "" || b == "" {
		return false
	}
	p, q := uintptr(unsafe.Pointer(unsafe.StringData(a))), uintptr(unsafe.Pointer(unsafe.StringData(b)))
	return p < q+uintptr(len(b)) && q < p+uintptr(len(a))
}

// P2, P13.8: what is answered is no piece of a text that was handed in, nor are two texts of one answer of one memory.
func TestNewMemory(t *testing.T) {
	for _, s := range []string{"a", "text", "text%g", "%gtext", "a%gb", "%%a%g%%b"} {
		format := string(append([]byte(nil), s...))
		pieces, _, _ := directive.Parse(format)
		for i, p := range pieces {
			if shares(p.Text, format) {
				t.Errorf("Parse(%q) answers a piece of its text", s)
			}
			for _, q := range pieces[:i] {
				if shares(p.Text, q.Text) {
					t.Errorf("Parse(%q) answers one memory twice", s)
				}
			}
		}
		if a, _, b, _ := directive.Single(format); shares(a, format) || shares(b, format) || shares(a, b) {
			t.Errorf("Single(%q) answers a piece of its text", s)
		}
		for _, p := range pieces {
			if text, _ := directive.Print([]api.Piece{p}); shares(text, p.Text) {
				t.Errorf("Print(%v) answers its own text", p)
			}
		}
	}
}
