package record_test

import (
	"math"
	"slices"
	"strings"
	"testing"

	"abacus/api"
	"abacus/chars"
	"abacus/record"
	"abacus/value"
)

const (
	maxInt = 1<<63 - 1
	minInt = -1 << 63
	blanks = "\t\n\v\f\r "
	most   = 1 << 24 // bytes of a text that is made
	last   = 32768   // the greatest number of a field
)

// random: a number from a fixed row (splitmix64), so that every run tests the same.
func random(seed *uint64) uint64 {
	*seed += 0x9e3779b97f4a7c15
	z := *seed
	z = (z ^ z>>30) * 0xbf58476d1ce4e5b9
	z = (z ^ z>>27) * 0x94d049bb133111eb
	return z ^ z>>31
}

// between: a number from low to high.
func between(seed *uint64, low int, high int) int {
	return low + int(random(seed)%uint64(high-low+1))
}

// pick: one of these.
func pick[T any](seed *uint64, list ...T) T { return list[between(seed, 0, len(list)-1)] }

// num: a number as a raw value, with a text that doesn't count.
func num(x float64) api.Value {
	return api.Value{Kind: api.KindNum, Num: math.Float64bits(x), Str: "unseen"}
}

// str: a string as a raw value, with a number that doesn't count.
func str(s string) api.Value { return api.Value{Kind: api.KindStr, Num: api.NaN, Str: s} }

// strnum: a strnum as a raw value, whose number and text need not belong together.
func strnum(x float64, s string) api.Value {
	return api.Value{Kind: api.KindStrnum, Num: math.Float64bits(x), Str: s}
}

// kind: no value, by this Kind, with a number and a text that don't count.
func kind(k int) api.Value { return api.Value{Kind: k, Num: api.One, Str: "unseen"} }

// draw: a text of up to so many bytes, of few letters, so that texts often stand in one another.
func draw(seed *uint64, most int) string {
	letters := pick(seed, "a", "ab", "abc", "a ", "ab"+blanks, "a\n", "ab\n\n", "a,", "1 ", "12.,e- ", "\x00\xff", "a\xc3\xa9", "\n", blanks)
	text := make([]byte, between(seed, 0, most))
	for i := range text {
		text[i] = letters[between(seed, 0, len(letters)-1)]
		if between(seed, 0, 99) == 0 {
			text[i] = byte(random(seed))
		}
	}
	return string(text)
}

// drawSep: a separator that often stands in drawn texts.
func drawSep(seed *uint64) string {
	return pick(seed, " ", "", "\n", "\n\n", ",", "a", "aa", "ab", "  ", "\xa9", draw(seed, 1), draw(seed, 2), draw(seed, 3))
}

// drawValue: a raw value of any kind.
func drawValue(seed *uint64) api.Value {
	x := float64(between(seed, -40, 40)) / pick(seed, 1.0, 1, 4, 10)
	if between(seed, 0, 15) == 0 {
		x = pick(seed, math.NaN(), math.Inf(1), math.Inf(-1), math.Copysign(0, -1), 1e300, 1<<63, 1e18, 5e-324)
	}
	v := api.Value{Kind: between(seed, 0, 4), Num: math.Float64bits(x), Str: draw(seed, 6)}
	if v.Kind == 4 {
		v.Kind = pick(seed, 4, 5, -1, 257, 1<<32+1, maxInt, minInt, minInt+2)
	}
	return v
}

// drawFormat: a conversion format, or now and then a text that is none.
func drawFormat(seed *uint64) string {
	return pick(seed, "%.6g", "%.6g", "%.3f", "<%e>", "%.0f", "%g%%", "%d", "", "x", "%s", "%.2f%.2f")
}

// row: so many bytes x.
func row(count int) string { return strings.Repeat("x", count) }

// brief: enough of a text to know it by.
func brief(s string) string {
	if len(s) > 80 {
		return s[:40] + ".." + s[len(s)-40:]
	}
	return s
}

// first: some of a list, enough to know it by.
func first[T any](list []T) []T { return list[:min(len(list), 12)] }

// holdLines: Lines' answer must be these records.
func holdLines(t *testing.T, text string, rs string, want ...string) {
	t.Helper()
	if got := record.Lines(text, rs); !slices.Equal(got, want) {
		t.Fatalf("Lines(%q, %q) = %d: %.200q, want %d: %.200q", brief(text), brief(rs), len(got), first(got), len(want), first(want))
	}
}

// holdFields: Fields' answer must be these fields, and New's must be what they are as input.
func holdFields(t *testing.T, text string, fs string, want ...string) {
	t.Helper()
	if got := record.Fields(text, fs); !slices.Equal(got, want) {
		t.Fatalf("Fields(%q, %q) = %d: %.200q, want %d: %.200q", brief(text), brief(fs), len(got), first(got), len(want), first(want))
	}
	vals := make([]api.Value, len(want))
	for i, part := range want {
		vals[i] = value.Input(part)
	}
	holdState(t, record.New(text, fs, "-"), text, vals...)
}

// holdState: the record's text and fields must be these, whichever way they are asked for.
func holdState(t *testing.T, r *record.Record, text string, fields ...api.Value) {
	t.Helper()
	if r == nil {
		t.Fatal("no record")
	}
	if got := r.Text(); got != text {
		t.Fatalf("the text is %q (%d bytes), want %q (%d bytes)", brief(got), len(got), brief(text), len(text))
	}
	if got := r.Count(); got != len(fields) {
		t.Fatalf("of %q: %d fields, want %d", brief(text), got, len(fields))
	}
	if got := r.All(); !slices.Equal(got, fields) {
		t.Fatalf("of %q: the fields are %.200v, want %.200v", brief(text), first(got), first(fields))
	}
	holdField(t, r, 0, value.Input(text), api.OK)
	for i := range fields {
		holdField(t, r, i+1, fields[i], api.OK)
	}
	if len(fields) < last {
		holdField(t, r, len(fields)+1, api.Value{}, api.OK)
	}
}

// holdField: Field's answer must be this value and this error.
func holdField(t *testing.T, r *record.Record, i int, want api.Value, e api.Errno) {
	t.Helper()
	if got, fault := r.Field(i); got != want || fault != e {
		t.Fatalf("Field(%d) = %.200v, error %d; want %.200v, error %d", i, got, fault, want, e)
	}
}

// holdSet: Set must answer this error.
func holdSet(t *testing.T, r *record.Record, i int, v api.Value, convfmt string, e api.Errno) {
	t.Helper()
	if got := r.Set(i, v, convfmt); got != e {
		t.Fatalf("Set(%d, %.200v, %q): error %d, want %d", i, v, brief(convfmt), got, e)
	}
}

// holdCount: SetCount must answer this error.
func holdCount(t *testing.T, r *record.Record, n int, convfmt string, e api.Errno) {
	t.Helper()
	if got := r.SetCount(n, convfmt); got != e {
		t.Fatalf("SetCount(%d, %q): error %d, want %d", n, brief(convfmt), got, e)
	}
}

// model is a record as the chapter tells it, made anew as a whole by every call.
type model struct {
	text   string
	fields []api.Value
	fs     string
	ofs    string
}

// read: the model of this text.
func (m model) read(text string) model {
	m.text, m.fields = text, nil
	for _, part := range chars.Split(text, m.fs) {
		m.fields = append(m.fields, value.Input(part))
	}
	return m
}

// set: the model with $i set, and the error.
func (m model) set(i int, v api.Value, convfmt string) (model, api.Errno) {
	if i < 0 || i > last {
		return m, api.ErrField
	}
	if i == 0 {
		text, e := value.ToStr(v, convfmt)
		if e != api.OK {
			return m, e
		}
		return m.read(text), api.OK
	}
	list := slices.Clone(m.fields)
	for len(list) < i {
		list = append(list, api.Value{})
	}
	list[i-1] = value.Plain(v)
	return m.with(list, convfmt)
}

// setCount: the model with so many fields, and the error.
func (m model) setCount(n int, convfmt string) (model, api.Errno) {
	if n < 0 || n > last {
		return m, api.ErrField
	}
	list := make([]api.Value, n)
	copy(list, m.fields)
	return m.with(list, convfmt)
}

// with: the model with these fields, its text made of them.
func (m model) with(list []api.Value, convfmt string) (model, api.Errno) {
	var texts []string
	for _, f := range list {
		text, e := value.ToStr(f, convfmt)
		if e != api.OK {
			return m, e
		}
		texts = append(texts, text)
	}
	m.text, m.fields = strings.Join(texts, m.ofs), list
	return m, api.OK
}
