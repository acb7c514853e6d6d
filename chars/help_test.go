package chars_test

import (
	"math"
	"slices"
	"strings"
	"testing"

	"abacus/api"
	"abacus/chars"
)

const (
	minus  = api.Sign
	maxInt = 1<<63 - 1
	minInt = -1 << 63
	blanks = "\t\n\v\f\r "
)

// random: a number from a fixed row (splitmix64), so that every run tests the same.
func random(seed *uint64) uint64 {
	*seed += 0x9e3779b97f4a7c15
	z := *seed
	z = (z ^ z>>30) * 0xbf58476d1ce4e5b9
	z = (z ^ z>>27) * 0x94d049bb133111eb
	return z ^ z>>31
}

// between: a number from low to high.
func between(seed *uint64, low int, high int) int {
	return low + int(random(seed)%uint64(high-low+1))
}

// pick: one of these.
func pick[T any](seed *uint64, list ...T) T { return list[between(seed, 0, len(list)-1)] }

// bits: a float's pattern.
func bits(x float64) uint64 { return math.Float64bits(x) }

// draw: a text of up to so many bytes, of few letters, so that texts often stand in one another.
func draw(seed *uint64, most int) string {
	letters := pick(seed, "a", "ab", "abc", "a ", "ab"+blanks, "a\xc3\xa9", "\x00\xff", "aA\x80", blanks)
	text := make([]byte, between(seed, 0, most))
	for i := range text {
		text[i] = letters[between(seed, 0, len(letters)-1)]
		if between(seed, 0, 99) == 0 {
			text[i] = byte(random(seed))
		}
	}
	return string(text)
}

// drawList: up to so many drawn texts.
func drawList(seed *uint64, most int) []string {
	list := make([]string, between(seed, 0, most))
	for i := range list {
		list[i] = draw(seed, 4)
	}
	return list
}

// everyByte: a text of all the bytes, in their order.
func everyByte() string {
	text := make([]byte, 256)
	for i := range text {
		text[i] = byte(i)
	}
	return string(text)
}

// stands: the places, from 0 on, at which old stands in s, from the left, none overlapping the one before; told byte by byte.
func stands(s string, old string) []int {
	var list []int
	for at := 0; at+len(old) <= len(s); {
		if s[at:at+len(old)] != old {
			at++
			continue
		}
		list = append(list, at)
		at += max(len(old), 1)
	}
	return list
}

// cut: the pieces of s between these places, each so many bytes long.
func cut(s string, places []int, length int) []string {
	var parts []string
	from := 0
	for _, at := range places {
		parts = append(parts, s[from:at])
		from = at + length
	}
	return append(parts, s[from:])
}

// glued: parts with a text between, told by going from byte to byte.
func glued(parts []string, sep string) string {
	var text []byte
	for i, p := range parts {
		if i > 0 {
			text = append(text, sep...)
		}
		text = append(text, p...)
	}
	return string(text)
}

// brief: enough of a text to know it by.
func brief(s string) string {
	if len(s) > 80 {
		return s[:40] + ".." + s[len(s)-40:]
	}
	return s
}

// row: so many bytes x.
func row(count int) string { return strings.Repeat("x", count) }

// holdIndex: Index's answer must be this place.
func holdIndex(t *testing.T, s string, sought string, want int) {
	t.Helper()
	if got := chars.Index(s, sought); got != want {
		t.Fatalf("Index(%q, %q) = %d, want %d", brief(s), brief(sought), got, want)
	}
}

// holdSubstr: Substr's answer must be this text.
func holdSubstr(t *testing.T, s string, m uint64, n uint64, want string) {
	t.Helper()
	if got := chars.Substr(s, m, n); got != want {
		t.Fatalf("Substr(%q, %016x, %016x) (%v, %v) = %q, want %q", brief(s), m, n, math.Float64frombits(m), math.Float64frombits(n), brief(got), brief(want))
	}
}

// holdFrom: From's answer must be this text.
func holdFrom(t *testing.T, s string, m uint64, want string) {
	t.Helper()
	if got := chars.From(s, m); got != want {
		t.Fatalf("From(%q, %016x) (%v) = %q, want %q", brief(s), m, math.Float64frombits(m), brief(got), brief(want))
	}
}

// holdSplit: Split's answer must be these parts.
func holdSplit(t *testing.T, s string, sep string, want ...string) {
	t.Helper()
	if got := chars.Split(s, sep); !slices.Equal(got, want) {
		t.Fatalf("Split(%q, %q) = %q, want %q", brief(s), brief(sep), got[:min(len(got), 20)], want[:min(len(want), 20)])
	}
}

// holdJoin: Join's answer must be this text and this error, and without a text between, Cat's too.
func holdJoin(t *testing.T, parts []string, sep string, want string, e api.Errno) {
	t.Helper()
	if got, fault := chars.Join(parts, sep); got != want || fault != e {
		t.Fatalf("Join(%d parts, %q) = %q (%d bytes), error %d; want %q (%d bytes), error %d", len(parts), brief(sep), brief(got), len(got), fault, brief(want), len(want), e)
	}
	if sep == "" {
		if got, fault := chars.Cat(parts...); got != want || fault != e {
			t.Fatalf("Cat(%d parts) = %q (%d bytes), error %d; want %q (%d bytes), error %d", len(parts), brief(got), len(got), fault, brief(want), len(want), e)
		}
	}
}

// holdReplace: Replace's answer must be this text, this count and this error.
func holdReplace(t *testing.T, s string, old string, with string, most int, want string, count int, e api.Errno) {
	t.Helper()
	if got, n, fault := chars.Replace(s, old, with, most); got != want || n != count || fault != e {
		t.Fatalf("Replace(%q, %q, %q, %d) = %q (%d bytes), %d, error %d; want %q (%d bytes), %d, error %d",
			brief(s), brief(old), brief(with), most, brief(got), len(got), n, fault, brief(want), len(want), count, e)
	}
}
