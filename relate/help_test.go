package relate_test

import (
	"fmt"
	"math"
	"testing"

	"abacus/api"
	"abacus/relate"
)

const (
	minus  = api.Sign
	maxInt = 1<<63 - 1
	minInt = -1 << 63
)

// random: a number from a fixed row (splitmix64), so that every run tests the same.
func random(seed *uint64) uint64 {
	*seed += 0x9e3779b97f4a7c15
	z := *seed
	z = (z ^ z>>30) * 0xbf58476d1ce4e5b9
	z = (z ^ z>>27) * 0x94d049bb133111eb
	return z ^ z>>31
}

// between: a number from low to high.
func between(seed *uint64, low int, high int) int {
	return low + int(random(seed)%uint64(high-low+1))
}

// pick: one of these.
func pick[T any](seed *uint64, list ...T) T { return list[between(seed, 0, len(list)-1)] }

// bits: a float's pattern.
func bits(x float64) uint64 { return math.Float64bits(x) }

// num: a number as a raw value, with a text that doesn't count.
func num(x float64) api.Value { return pattern(bits(x)) }

// pattern: the double of these bits as a raw value.
func pattern(d uint64) api.Value { return api.Value{Kind: api.KindNum, Num: d, Str: "unseen"} }

// str: a string as a raw value, with a number that doesn't count.
func str(s string) api.Value { return api.Value{Kind: api.KindStr, Num: api.NaN, Str: s} }

// strnum: a strnum as a raw value, whose fields need not belong together.
func strnum(x float64, s string) api.Value {
	return api.Value{Kind: api.KindStrnum, Num: bits(x), Str: s}
}

// kind: no value, with fields that don't count.
func kind(k int) api.Value { return api.Value{Kind: k, Num: bits(5), Str: "5"} }

// relations: all of them.
func relations() []int { return []int{api.LT, api.LE, api.EQ, api.NE, api.GT, api.GE} }

// wrongKinds: Kinds that are none of the four.
func wrongKinds() []int {
	return []int{4, 5, 7, -1, -2, -3, -4, 256, 257, 258, 259, 1<<32 + 1, 1<<32 + 2, 1<<32 + 3, maxInt, minInt, minInt + 1, minInt + 2}
}

// ends: doubles of all classes, at their ends and next to one another, NaNs of many bits among them, of both signs.
func ends() []uint64 {
	var list []uint64
	for _, d := range []uint64{
		0, 1, 2, 1<<52 - 1, 1 << 52, 1<<52 + 1, bits(0.1), bits(0.5), api.One - 1, api.One, api.One + 1, bits(2), bits(9), bits(10), bits(100), bits(1 << 53), bits(1<<53) + 1,
		bits(1e18), bits(1<<63) - 1, bits(1 << 63), bits(1e300), api.Most - 1, api.Most, api.Inf, api.Inf + 1, api.NaN - 1, api.NaN, api.NaN + 1, minus - 1,
	} {
		list = append(list, d, d|minus)
	}
	return list
}

// texts: strings that begin one another, that differ in one byte, low and high bytes, numbers.
func texts() []string {
	return []string{
		"", "a", "b", "ab", "aa", "abc", "A", "B", "Z", "\x00", "\x00\x00", "a\x00", "\x7f", "\x80", "\xff", "a\x7f", "a\x80", "a\xff", "\xff\xff", "\xc3\xa9", "\xc3", "e\xcc\x81",
		"0", "1", "10", "9", "-1", "-0", "+1", "1.0", " 10 ", "0.1", "0.10", "1e1", "nan", "-nan", "inf", "-inf", " ", "\n", "x",
	}
}

// samples: values of every kind: no value, all Kinds that are none, the ends as numbers and strnums, texts as strings and strnums.
func samples() []api.Value {
	list := []api.Value{{}, kind(api.KindNone)}
	for _, k := range wrongKinds() {
		list = append(list, kind(k))
	}
	for _, d := range ends() {
		list = append(list, pattern(d), api.Value{Kind: api.KindStrnum, Num: d, Str: "12"})
	}
	for _, s := range texts() {
		list = append(list, str(s), strnum(10, s))
	}
	return list
}

// draw: a value of any kind, of few numbers and texts, so that many stand at one place.
func draw(seed *uint64) api.Value {
	v := api.Value{Kind: between(seed, 0, 4), Num: bits(float64(between(seed, -2, 2))), Str: pick(seed, "", "a", "b", "ab", "1", "\xff")}
	if random(seed)%4 == 0 {
		v.Num = pick(seed, ends()...)
	}
	if random(seed)%16 == 0 {
		v.Num, v.Kind = random(seed), pick(seed, api.KindNum, api.KindStrnum)
	}
	if random(seed)%16 == 0 {
		v.Str = pick(seed, texts()...)
	}
	return v
}

// drawList: so many drawn values.
func drawList(seed *uint64, count int) []api.Value {
	list := make([]api.Value, count)
	for i := range list {
		list[i] = draw(seed)
	}
	return list
}

// isText: whether a raw value is a string.
func isText(v api.Value) bool { return v.Kind == api.KindStr }

// float: the number of a raw value that is no string.
func float(v api.Value) float64 {
	if v.Kind == api.KindNum || v.Kind == api.KindStrnum {
		return math.Float64frombits(v.Num)
	}
	return 0
}

// byBytes: the order of texts, byte by byte.
func byBytes(a string, b string) int {
	for i := 0; i < len(a) && i < len(b); i++ {
		if a[i] < b[i] {
			return -1
		}
		if a[i] > b[i] {
			return 1
		}
	}
	return sign(len(a) - len(b))
}

func sign(i int) int {
	if i < 0 {
		return -1
	}
	if i > 0 {
		return 1
	}
	return 0
}

// byFloats: -1, 0 or 1 by the host's floats, 2 if one is a NaN.
func byFloats(x float64, y float64) int {
	switch {
	case x < y:
		return -1
	case x > y:
		return 1
	case x == y:
		return 0
	}
	return 2
}

// inOrder: what Order must answer: numbers by the host's floats, NaNs behind them, then texts.
func inOrder(a api.Value, b api.Value) int {
	group := func(v api.Value) int {
		if isText(v) {
			return 2
		}
		if math.IsNaN(float(v)) {
			return 1
		}
		return 0
	}
	if c := sign(group(a) - group(b)); c != 0 {
		return c
	}
	switch group(a) {
	case 0:
		return byFloats(float(a), float(b))
	case 1:
		return 0
	}
	return byBytes(a.Str, b.Str)
}

// plain: a value without what doesn't count.
func plain(v api.Value) api.Value {
	switch v.Kind {
	case api.KindNum:
		return api.Value{Kind: v.Kind, Num: v.Num}
	case api.KindStr:
		return api.Value{Kind: v.Kind, Str: v.Str}
	case api.KindStrnum:
		return v
	}
	return api.Value{}
}

// show: a value that may be read.
func show(v api.Value) string {
	s := v.Str
	if len(s) > 80 {
		s = s[:40] + ".." + s[len(s)-40:]
	}
	return fmt.Sprintf("{%d %016x %q}", v.Kind, v.Num, s)
}

// holdCompare: Compare and each relation must answer as c says, and as it turned round for b and a.
func holdCompare(t *testing.T, a api.Value, b api.Value, convfmt string, c int) {
	t.Helper()
	back := -c
	if c == 2 {
		back = 2
	}
	for _, r := range []struct {
		a, b api.Value
		c    int
	}{{a, b, c}, {b, a, back}} {
		if got, e := relate.Compare(r.a, r.b, convfmt); got != r.c || e != api.OK {
			t.Fatalf("Compare(%s, %s, %q) = %d, error %d; want %d", show(r.a), show(r.b), convfmt, got, e, r.c)
		}
		for i, want := range []bool{r.c == -1, r.c == -1 || r.c == 0, r.c == 0, r.c != 0, r.c == 1, r.c == 0 || r.c == 1} {
			if got, e := relate.Holds(relations()[i], r.a, r.b, convfmt); got != want || e != api.OK {
				t.Fatalf("Holds(%d, %s, %s, %q) = %v, error %d; want %v", relations()[i], show(r.a), show(r.b), convfmt, got, e, want)
			}
		}
	}
}

// holdRefused: Compare and each relation must answer this error.
func holdRefused(t *testing.T, a api.Value, b api.Value, convfmt string, e api.Errno) {
	t.Helper()
	if c, got := relate.Compare(a, b, convfmt); c != 0 || got != e {
		t.Fatalf("Compare(%s, %s) = %d, error %d; want error %d", show(a), show(b), c, got, e)
	}
	for _, op := range relations() {
		if ok, got := relate.Holds(op, a, b, convfmt); ok || got != e {
			t.Fatalf("Holds(%d, %s, %s) = %v, error %d; want error %d", op, show(a), show(b), ok, got, e)
		}
	}
}
