package value_test

import (
	"math"
	"strings"
	"testing"

	"abacus/api"
	"abacus/value"
)

const (
	minus  = api.Sign
	maxInt = 1<<63 - 1
	minInt = -1 << 63
	blanks = "\t\n\v\f\r "
)

// random: a number from a fixed row (splitmix64), so that every run tests the same.
func random(seed *uint64) uint64 {
	*seed += 0x9e3779b97f4a7c15
	z := *seed
	z = (z ^ z>>30) * 0xbf58476d1ce4e5b9
	z = (z ^ z>>27) * 0x94d049bb133111eb
	return z ^ z>>31
}

// between: a number from low to high.
func between(seed *uint64, low int, high int) int {
	return low + int(random(seed)%uint64(high-low+1))
}

// pick: one of these.
func pick[T any](seed *uint64, list ...T) T { return list[between(seed, 0, len(list)-1)] }

// bits: a float's pattern.
func bits(x float64) uint64 { return math.Float64bits(x) }

// float: the number of a pattern.
func float(d uint64) float64 { return math.Float64frombits(d) }

// num: a number as a raw value, with a text that doesn't count.
func num(x float64) api.Value { return api.Value{Kind: api.KindNum, Num: bits(x), Str: "7"} }

// pattern: the double of these bits as a raw value.
func pattern(d uint64) api.Value { return api.Value{Kind: api.KindNum, Num: d, Str: "unseen"} }

// str: a string as a raw value, with a number that doesn't count.
func str(s string) api.Value { return api.Value{Kind: api.KindStr, Num: api.NaN, Str: s} }

// strnum: a strnum as a raw value, whose fields need not belong together.
func strnum(d uint64, s string) api.Value { return api.Value{Kind: api.KindStrnum, Num: d, Str: s} }

// wrongKinds: Kinds that are none of the four.
func wrongKinds() []int {
	return []int{4, 5, 7, -1, -2, -3, -4, 256, 257, 258, 259, 1 << 32, 1<<32 + 1, 1<<32 + 2, 1<<32 + 3, maxInt, minInt, minInt + 1, minInt + 2}
}

// ends: doubles at the ends of their classes and around the powers of two that count here, NaNs and infinities among them, without a sign.
func ends() []uint64 {
	list := []uint64{0, 1, 2, 1<<52 - 1, 1 << 52, 1<<52 + 1, api.Most - 1, api.Most, api.Inf, api.Inf + 1, api.NaN - 1, api.NaN, api.NaN + 1, minus - 1}
	for _, power := range []int{-1, 0, 1, 8, 31, 32, 33, 51, 52, 53, 54, 61, 62, 63, 64, 65, 127, 128, 1000} {
		d := bits(math.Ldexp(1, power))
		list = append(list, d-2, d-1, d, d+1, d+2)
	}
	return list
}

// drawDouble: a double of either sign: any pattern, small whole numbers, short fractions, whole and half numbers up to 2^64, the ends.
func drawDouble(seed *uint64) uint64 {
	d := random(seed)
	switch between(seed, 0, 5) {
	case 0:
		d = bits(float64(between(seed, 0, 999)))
	case 1:
		d = bits(float64(between(seed, 0, 99999)) / 64)
	case 2:
		d = bits(math.Ldexp(float64(random(seed)>>11), between(seed, -54, 12)))
	case 3:
		d = bits(math.Ldexp(float64(random(seed)>>between(seed, 11, 63)), between(seed, -3, 20)))
	case 4:
		d = pick(seed, ends()...)
	}
	return d ^ random(seed)&minus
}

// drawText: a short text of the bytes of literals, with others now and then.
func drawText(seed *uint64) string {
	var b strings.Builder
	for range between(seed, 0, 9) {
		const common = "0123456789015..eE+-  " + blanks
		c := common[between(seed, 0, len(common)-1)]
		if random(seed)%16 == 0 {
			c = byte(random(seed))
		}
		b.WriteByte(c)
	}
	return b.String()
}

// drawLiteral: a literal between blanks, with one byte changed, put in or left out now and then.
func drawLiteral(seed *uint64) string {
	digits := func(least int, most int) string {
		s := ""
		for range between(seed, least, most) {
			s += string(rune('0' + between(seed, 0, 9)))
		}
		return s
	}
	s := pick(seed, "", "", " ", "\t\n", blanks) + pick(seed, "", "", "+", "-")
	s += pick(seed, digits(1, 20), digits(1, 9)+".", "."+digits(1, 9), digits(1, 9)+"."+digits(1, 9))
	s += pick(seed, "", "", pick(seed, "e", "E")+pick(seed, "", "+", "-")+digits(1, 3))
	s += pick(seed, "", "", " ", "\r\n", blanks)
	at, c := between(seed, 0, len(s)-1), pick(seed, "0", ".", "e", "-", " ", "x", "\x00", "\xa0", "\x08", "\x0e")
	switch between(seed, 0, 5) {
	case 0:
		return s[:at] + c + s[at:]
	case 1:
		return s[:at] + c + s[at+1:]
	case 2:
		return s[:at] + s[at+1:]
	}
	return s
}

// brief: enough of a text to know it by.
func brief(s string) string {
	if len(s) > 80 {
		return s[:40] + ".." + s[len(s)-40:]
	}
	return s
}

// holdToStr: ToStr's answer must be this text and this error.
func holdToStr(t *testing.T, v api.Value, convfmt string, want string, e api.Errno) {
	t.Helper()
	got, fault := value.ToStr(v, convfmt)
	if got != want || fault != e {
		t.Fatalf("ToStr of {%d %016x %q} by %q: %q (%d bytes), error %d; want %q (%d bytes), error %d",
			v.Kind, v.Num, brief(v.Str), brief(convfmt), brief(got), len(got), fault, brief(want), len(want), e)
	}
}

// holdValue: a call's answer must be this value.
func holdValue(t *testing.T, what string, got api.Value, want api.Value) {
	t.Helper()
	if got != want {
		t.Fatalf("%s: {%d %016x %q}; want {%d %016x %q}", what, got.Kind, got.Num, brief(got.Str), want.Kind, want.Num, brief(want.Str))
	}
}
