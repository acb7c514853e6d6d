package spell_test

import (
	"fmt"
	"math"
	"regexp"
	"strconv"
	"strings"
	"testing"

	"abacus/api"
	"abacus/spell"
)

const (
	minus  = api.Sign
	maxInt = 1<<63 - 1
	minInt = -1 << 63
	verbs  = "diouxXcseEfFgG"
)

var (
	pointed = regexp.MustCompile(`%[.0-9]*[efg]`)
	literal = regexp.MustCompile(`^[\t\n\v\f\r ]*([+-]?(?:[0-9]+\.?[0-9]*|\.[0-9]+)(?:[eE][+-]?[0-9]+)?)`)
)

// random: a number from a fixed row (splitmix64), so that every run tests the same.
func random(seed *uint64) uint64 {
	*seed += 0x9e3779b97f4a7c15
	z := *seed
	z = (z ^ z>>30) * 0xbf58476d1ce4e5b9
	z = (z ^ z>>27) * 0x94d049bb133111eb
	return z ^ z>>31
}

// between: a number from low to high.
func between(seed *uint64, low int, high int) int {
	return low + int(random(seed)%uint64(high-low+1))
}

// pick: one of these.
func pick[T any](seed *uint64, list ...T) T { return list[between(seed, 0, len(list)-1)] }

// bits: a float's pattern.
func bits(x float64) uint64 { return math.Float64bits(x) }

// num: a number as a raw value, with a text that doesn't count.
func num(x float64) api.Value { return pattern(bits(x)) }

// pattern: the double of these bits as a raw value.
func pattern(d uint64) api.Value { return api.Value{Kind: api.KindNum, Num: d, Str: "unseen"} }

// str: a string as a raw value, with a number that doesn't count.
func str(s string) api.Value { return api.Value{Kind: api.KindStr, Num: api.NaN, Str: s} }

// strnum: a strnum as a raw value, whose fields need not belong together.
func strnum(x float64, s string) api.Value {
	return api.Value{Kind: api.KindStrnum, Num: bits(x), Str: s}
}

// kind: a value of this Kind, which is none if the Kind is, with fields of which one at least doesn't count.
func kind(k int) api.Value { return api.Value{Kind: k, Num: bits(0.5), Str: "5"} }

// wrongKinds: Kinds that are none of the four.
func wrongKinds() []int {
	return []int{4, 5, 7, 9, -1, -2, -3, -4, 256, 257, 258, 259, 1<<32 + 1, 1<<32 + 2, 1<<32 + 3, maxInt, minInt, minInt + 1, minInt + 2}
}

// ends: doubles of all classes, at their ends and next to one another, NaNs of many bits among them, of both signs.
func ends() []uint64 {
	var list []uint64
	for _, d := range []uint64{
		0, 1, 1<<52 - 1, 1 << 52, bits(0.1), bits(0.5), api.One - 1, api.One, api.One + 1, bits(65), bits(65.5), bits(255), bits(256), bits(321), bits(4096), bits(4096.5), bits(4097),
		bits(1 << 53), bits(1e18), bits(1<<63) - 1, bits(1 << 63), bits(1 << 64), bits(1e23), bits(1e300), api.Most, api.Inf, api.Inf + 1, api.NaN, api.NaN + 1, minus - 1,
	} {
		list = append(list, d, d|minus)
	}
	return list
}

// texts: strings with numbers at their heads and without, blanks, low and high bytes.
func texts() []string {
	return []string{
		"", "a", "ab", "text", "3x", " 12 ", "\t\n\v\f\r 7", "-0", "+1e2", "1e", "1e+", ".5", "5.", ".", "-", "-.5e1x", "0x10", "nan", "inf", "-inf", "wide", "4", "-6", "2.9", "4096.9", "4097", "5000", "-5000",
		"1e400", "-1e400", "1e-400", "99999999999999991611392", "0.1", "0.10", "65", "\x00", "\x00a", "\xff", "\xc3\xa9", "%", "%d", "a%sb", "\n",
	}
}

// samples: values of every kind: no value, Kinds that are none, the ends as numbers and strnums, texts as strings and strnums.
func samples() []api.Value {
	list := []api.Value{{}, kind(api.KindNone)}
	for _, k := range wrongKinds() {
		list = append(list, kind(k))
	}
	for _, d := range ends() {
		list = append(list, pattern(d), api.Value{Kind: api.KindStrnum, Num: d, Str: "12"})
	}
	for _, s := range texts() {
		list = append(list, str(s), strnum(66.5, s))
	}
	return list
}

// draw: a value of any kind.
func draw(seed *uint64) api.Value {
	v := api.Value{Kind: between(seed, 0, 3), Num: bits(float64(between(seed, -400, 400)) / 16), Str: pick(seed, texts()...)}
	switch between(seed, 0, 15) {
	case 0:
		v.Kind = pick(seed, wrongKinds()...)
	case 1, 2:
		v.Num = pick(seed, ends()...)
	case 3:
		v.Num = random(seed)
	}
	return v
}

// drawList: so many drawn values.
func drawList(seed *uint64, count int) []api.Value {
	list := make([]api.Value, count)
	for i := range list {
		list[i] = draw(seed)
	}
	return list
}

// numOf: a value's number, a string's told by the host's floats.
func numOf(v api.Value) uint64 {
	switch v.Kind {
	case api.KindNum, api.KindStrnum:
		return v.Num
	case api.KindStr:
		if found := literal.FindStringSubmatch(v.Str); found != nil {
			x, _ := strconv.ParseFloat(found[1], 64)
			return bits(x)
		}
	}
	return 0
}

// textOf: a value's text by a format, told by the host's printf but for NaNs and infinities. A format counts as one if it has one directive e, f or g and no other; other letters and flags aren't known here.
func textOf(v api.Value, convfmt string) (string, api.Errno) {
	switch v.Kind {
	case api.KindStr, api.KindStrnum:
		return v.Str, api.OK
	case api.KindNum:
		return numberText(math.Float64frombits(v.Num), convfmt)
	}
	return "", api.OK
}

func numberText(x float64, convfmt string) (string, api.Errno) {
	if x == math.Trunc(x) && math.Abs(x) < 1<<63 {
		return fmt.Sprint(int64(x)), api.OK
	}
	if !pointed.MatchString(convfmt) || strings.Count(strings.ReplaceAll(convfmt, "%%", ""), "%") != 1 {
		return "", api.ErrConv
	}
	name := ""
	switch {
	case math.IsNaN(x):
		name = "nan"
	case math.IsInf(x, 0):
		name = "inf"
	default:
		return fmt.Sprintf(convfmt, x), api.OK
	}
	if math.Signbit(x) {
		name = "-" + name
	}
	return strings.ReplaceAll(pointed.ReplaceAllString(convfmt, name), "%%", "%"), api.OK
}

// argOf: what Arg must answer.
func argOf(convfmt string, verb byte, v api.Value) (api.Arg, api.Errno) {
	asNumber := v.Kind == api.KindNum || v.Kind == api.KindStrnum
	if verb != 's' && (verb != 'c' || asNumber) {
		return api.Arg{Num: numOf(v)}, api.OK
	}
	text, e := textOf(v, convfmt)
	return api.Arg{Text: e == api.OK, Str: text}, e
}

// brief: enough of a text to know it by.
func brief(s string) string {
	if len(s) > 80 {
		return s[:40] + ".." + s[len(s)-40:]
	}
	return s
}

// show: values that may be read.
func show(vals ...api.Value) string {
	list := []string{}
	for _, v := range vals[:min(len(vals), 20)] {
		list = append(list, fmt.Sprintf("{%d %016x %q}", v.Kind, v.Num, brief(v.Str)))
	}
	return strings.Join(list, " ")
}

// holdArg: Arg's answer must be this argument and this error.
func holdArg(t *testing.T, convfmt string, verb byte, v api.Value, a api.Arg, e api.Errno) {
	t.Helper()
	got, fault := spell.Arg(convfmt, verb, v)
	if got != a || fault != e {
		t.Fatalf("Arg(%q, %q, %s) = {%v %016x %q}, error %d; want {%v %016x %q}, error %d",
			brief(convfmt), verb, show(v), got.Text, got.Num, brief(got.Str), fault, a.Text, a.Num, brief(a.Str), e)
	}
}

// holdSprintf: Sprintf's answer must be this text and this error.
func holdSprintf(t *testing.T, convfmt string, format string, vals []api.Value, text string, e api.Errno) {
	t.Helper()
	got, fault := spell.Sprintf(convfmt, format, vals...)
	if got != text || fault != e {
		t.Fatalf("Sprintf(%q, %q, %s) = %q (%d bytes), error %d; want %q (%d bytes), error %d",
			brief(convfmt), brief(format), show(vals...), brief(got), len(got), fault, brief(text), len(text), e)
	}
}

// holdLine: Line's answer must be this text and this error.
func holdLine(t *testing.T, ofmt string, ofs string, ors string, vals []api.Value, text string, e api.Errno) {
	t.Helper()
	got, fault := spell.Line(ofmt, ofs, ors, vals...)
	if got != text || fault != e {
		t.Fatalf("Line(%q, %q, %q, %s) = %q (%d bytes), error %d; want %q (%d bytes), error %d",
			brief(ofmt), brief(ofs), brief(ors), show(vals...), brief(got), len(got), fault, brief(text), len(text), e)
	}
}
