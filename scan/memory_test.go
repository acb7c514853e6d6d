package scan_test

import (
	"testing"
	"unsafe"

	"abacus/scan"
)

// shares: whether two texts lie in one memory, in part at least.
func shares(a string, b string) bool {
	if a == "" || b == "" {
		return false
	}
	p, q := uintptr(unsafe.Pointer(unsafe.StringData(a))), uintptr(unsafe.Pointer(unsafe.StringData(b)))
	return p < q+uintptr(len(b)) && q < p+uintptr(len(a))
}

// P2, P8.1 to P8.4: what is answered is new memory: no piece of a text that was handed in.
func TestNewMemory(t *testing.T) {
	for _, s := range []string{"12345", " -12345.", ".12345", "1", "0", "-0.0", "12.34", "12345e7 ", "001200"} {
		s = string(append([]byte(nil), s...))
		if d, _ := scan.Number(s); shares(d.Digits, s) {
			t.Errorf("Number(%q) answers a piece of its text", s)
		}
		if d, _ := scan.Whole(s); shares(d.Digits, s) {
			t.Errorf("Whole(%q) answers a piece of its text", s)
		}
	}
	for _, s := range []string{"12345", "0012345", "12345000", "1", "0", "00"} {
		s = string(append([]byte(nil), s...))
		for _, neg := range []bool{false, true} {
			if d, _ := scan.Norm(dec(neg, s, 0)); shares(d.Digits, s) {
				t.Errorf("Norm(%q) answers a piece of its digits", s)
			}
			if text, _ := scan.Text(dec(neg, s, 0)); shares(text, s) {
				t.Errorf("Text(%q) answers a piece of its digits", s)
			}
		}
	}
}
