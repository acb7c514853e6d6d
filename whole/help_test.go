package whole_test

import (
	"encoding/binary"
	"math/big"
	"strings"
	"testing"

	"abacus/api"
)

const (
	top    = 1<<64 - 1
	maxInt = 1<<63 - 1
	minInt = -1 << 63
	marks  = "-+ #0" // mark i is the flag 1<<i
)

// random: a number from a fixed row (splitmix64), so that every run tests the same.
func random(seed *uint64) uint64 {
	*seed += 0x9e3779b97f4a7c15
	z := *seed
	z = (z ^ z>>30) * 0xbf58476d1ce4e5b9
	z = (z ^ z>>27) * 0x94d049bb133111eb
	return z ^ z>>31
}

// between: a number from low to high.
func between(seed *uint64, low int, high int) int {
	return low + int(random(seed)%uint64(high-low+1))
}

// pick: one of these.
func pick[T any](seed *uint64, list ...T) T { return list[between(seed, 0, len(list)-1)] }

// spec: the Spec of a directive that is written out.
func spec(text string) api.Spec {
	s := api.Spec{Verb: text[len(text)-1], Prec: -1}
	rest := text[1 : len(text)-1]
	for rest != "" && strings.IndexByte(marks, rest[0]) >= 0 {
		s.Flags |= 1 << strings.IndexByte(marks, rest[0])
		rest = rest[1:]
	}
	width, prec, point := strings.Cut(rest, ".")
	s.Width = number(width)
	if point {
		s.Prec = number(prec)
	}
	return s
}

// number: what a row of digits writes.
func number(digits string) int {
	n := 0
	for _, c := range digits {
		n = 10*n + int(c-'0')
	}
	return n
}

// flagged: whether the Spec has the flag of this mark.
func flagged(s api.Spec, mark string) bool { return s.Flags>>strings.Index(marks, mark)&1 == 1 }

// laid: head and body in the width, a byte put in at a time.
func laid(s api.Spec, head string, body string, zeros bool) string {
	out := head + body
	for len(out) < s.Width {
		switch {
		case flagged(s, "-"):
			out += " "
		case flagged(s, "0") && zeros:
			out = out[:len(head)] + "0" + out[len(head):]
		default:
			out = " " + out
			head = " " + head
		}
	}
	return out
}

// signed: what Signed must answer for n, below nothing if neg, by C's rules.
func signed(s api.Spec, neg bool, n *big.Int) string {
	digits := n.Text(10)
	if s.Prec == 0 && n.Sign() == 0 {
		digits = ""
	}
	for len(digits) < s.Prec {
		digits = "0" + digits
	}
	head := ""
	if flagged(s, " ") {
		head = " "
	}
	if flagged(s, "+") {
		head = "+"
	}
	if neg && n.Sign() != 0 {
		head = "-"
	}
	return laid(s, head, digits, s.Prec < 0)
}

// unsigned: what Unsigned must answer for u, by C's rules.
func unsigned(s api.Spec, u uint64) string {
	base := map[byte]int{'o': 8, 'u': 10, 'x': 16, 'X': 16}[s.Verb]
	digits := new(big.Int).SetUint64(u).Text(base)
	if s.Prec == 0 && u == 0 {
		digits = ""
	}
	for len(digits) < s.Prec {
		digits = "0" + digits
	}
	head := ""
	if flagged(s, "#") && s.Verb == 'o' && (digits == "" || digits[0] != '0') {
		digits = "0" + digits
	}
	if flagged(s, "#") && base == 16 && u != 0 {
		head = "0x"
	}
	if s.Verb == 'X' {
		head, digits = strings.ToUpper(head), strings.ToUpper(digits)
	}
	return laid(s, head, digits, s.Prec < 0)
}

// meant: the number that a list of limbs means.
func meant(a []uint64) *big.Int {
	var bytes []byte
	for i := len(a) - 1; i >= 0; i-- {
		bytes = binary.BigEndian.AppendUint64(bytes, a[i])
	}
	return new(big.Int).SetBytes(bytes)
}

// limbs: n limbs x.
func limbs(n int, x uint64) []uint64 {
	a := make([]uint64, n)
	for i := range a {
		a[i] = x
	}
	return a
}

// specs: Specs of the verb with all flags, small widths and small precisions.
func specs(verb byte, width int, prec int) []api.Spec {
	var list []api.Spec
	for flags := range 32 {
		for w := range width + 1 {
			for p := -1; p <= prec; p++ {
				list = append(list, api.Spec{Verb: verb, Flags: flags, Width: w, Prec: p})
			}
		}
	}
	return list
}

// rawSpecs: Specs whose numbers lie at the bounds and beyond, each with the error that it has if its Verb is right.
func rawSpecs() map[api.Spec]api.Errno {
	list := map[api.Spec]api.Errno{}
	for _, f := range []int{minInt, -32, -1, 0, 1, 16, 31, 32, 33, 64, 1 << 32, maxInt} {
		for _, w := range []int{minInt, -4097, -1, 0, 1, 4095, 4096, 4097, 1 << 32, maxInt} {
			for _, p := range []int{minInt, -4097, -2, -1, 0, 1, 4095, 4096, 4097, 1 << 32, maxInt} {
				e := api.OK
				if w > 4096 || p > 4096 {
					e = api.ErrWide
				}
				if f < 0 || f > 31 || w < 0 || p < -1 {
					e = api.ErrArg
				}
				list[api.Spec{Flags: f, Width: w, Prec: p}] = e
			}
		}
	}
	return list
}

// brief: enough of a text to know it by.
func brief(s string) string {
	if len(s) > 80 {
		return s[:40] + ".." + s[len(s)-40:]
	}
	return s
}

// hold: got must be want beside OK.
func hold(t *testing.T, s api.Spec, of any, got string, e api.Errno, want string) {
	t.Helper()
	if got != want || e != api.OK {
		t.Fatalf("%c %+v of %.60v: %q (%d bytes), error %d; want %q (%d bytes)", s.Verb, s, of, brief(got), len(got), e, brief(want), len(want))
	}
}

// refuse: no text beside the error want.
func refuse(t *testing.T, what string, s api.Spec, got string, e api.Errno, want api.Errno) {
	t.Helper()
	if got != "" || e != want {
		t.Fatalf("%s by %+v: %q, error %d; want none, error %d", what, s, brief(got), e, want)
	}
}
