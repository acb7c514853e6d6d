package store_test

import (
	"math"
	"strings"
	"testing"

	"abacus/api"
	"abacus/store"
	"abacus/value"
)

// P22.4, P22.7: the chapter's example of the record.
func TestRecord(t *testing.T) {
	s := store.New()
	holdSetField(t, s, 0, str("a b c"), api.OK)
	holdRecord(t, s, "a b c", plain(str("a"), str("b"), str("c"))...)
	holdSetVar(t, s, api.VarOfs, str("-"), api.OK)
	holdRecord(t, s, "a b c", plain(str("a"), str("b"), str("c"))...)
	holdSetVar(t, s, api.VarNf, str("2x"), api.OK)
	holdRecord(t, s, "a-b", plain(str("a"), str("b"))...)
	holdSetVar(t, s, api.VarNf, num(math.NaN()), api.ErrField)
	holdRecord(t, s, "a-b", plain(str("a"), str("b"))...)
	holdSetVar(t, s, api.VarNf, num(-0.5), api.OK)
	holdRecord(t, s, "")
}

// P22.4: which values are a number of fields: those that are, cut, from 0 to MaxFields.
func TestCounts(t *testing.T) {
	s := store.New()
	holdSetVar(t, s, api.VarOfs, str(""), api.OK)
	for _, c := range []struct {
		v    api.Value
		want int
	}{
		{num(0), 0}, {num(math.Copysign(0, -1)), 0}, {num(5e-324), 0}, {num(-5e-324), 0}, {num(0.9999999999999999), 0}, {num(-0.9999999999999999), 0}, {num(1), 1}, {num(1.9999999999999998), 1}, {num(2), 2}, {num(2.5), 2}, {num(3.9), 3}, {num(4), 4}, {num(127.5), 127},
		{num(last - 1), last - 1}, {num(32767.999999999996), last - 1}, {num(last), last}, {num(32768.99999999999), last},
		{str("3"), 3}, {str(" 4z"), 4}, {str("-.9e0"), 0}, {str("x"), 0}, {str(""), 0}, {str("0x10"), 0}, {str("1e1"), 10}, {strnum(5, "9"), 5}, {kind(0), 0}, {kind(7), 0}, {str("32768.9"), last},
	} {
		holdSetVar(t, s, api.VarNf, c.v, api.OK)
		holdVar(t, s, api.VarNf, value.Plain(num(float64(c.want))), api.OK)
		holdField(t, s, 0, value.Str(""), api.OK)
	}
	holdSetVar(t, s, api.VarNf, num(7), api.OK)
	before := s.Dump()
	for _, x := range []float64{-1, -1.5, math.Nextafter(-1, -2), -2, -32768, last + 1, 32769.5, 65536, 98304, 1 << 20, 1 << 31, 1 << 32, 1<<32 + 1, 1 << 52, 1 << 53, 1 << 63, 1 << 64, 1e300, -1e300, math.MaxFloat64, math.Inf(1), math.Inf(-1), math.NaN(), -math.NaN()} {
		holdSetVar(t, s, api.VarNf, num(x), api.ErrField)
		holdSetVar(t, s, api.VarNf, strnum(x, "1"), api.ErrField)
	}
	for _, text := range []string{"-1", "32769", "1e99", "-1e99", "1e999"} {
		holdSetVar(t, s, api.VarNf, str(text), api.ErrField)
	}
	holdDump(t, s, before)
}

// P22.4: NF is the number of fields, for every number of them.
func TestEveryCount(t *testing.T) {
	s := store.New()
	holdSetVar(t, s, api.VarOfs, str(""), api.OK)
	for n := 0; n <= last; n += 1 + n/50 {
		holdSetVar(t, s, api.VarNf, num(float64(n)), api.OK)
		holdVar(t, s, api.VarNf, value.Plain(num(float64(n))), api.OK)
	}
	holdSetField(t, s, last, str("x"), api.OK)
	holdVar(t, s, api.VarNf, value.Plain(num(last)), api.OK)
}

// P22.7: numbers outside 0 to MaxFields are refused ahead of all else, and nothing is changed.
func TestFieldNumbers(t *testing.T) {
	s := store.New()
	holdSetField(t, s, 0, str("a b"), api.OK)
	holdSetVar(t, s, api.VarConvfmt, str(""), api.OK)
	holdSetVar(t, s, api.VarFs, num(0.5), api.OK)
	holdSetVar(t, s, api.VarOfs, num(0.5), api.OK)
	before := s.Dump()
	for _, i := range faulty(last + 1) {
		holdField(t, s, i, api.Value{}, api.ErrField)
		holdSetField(t, s, i, num(0.5), api.ErrField)
	}
	holdSetVar(t, s, api.VarNf, num(-1), api.ErrField)
	holdSetVar(t, s, api.VarNf, num(last+1), api.ErrField)
	holdDump(t, s, before)
	holdField(t, s, last, api.Value{}, api.OK)
	holdField(t, s, 3, api.Value{}, api.OK)
}

// P22.7: FS counts from the next time that $0 is set, OFS and CONVFMT from the next time that it is made anew.
func TestSeparators(t *testing.T) {
	s := store.New()
	holdSetField(t, s, 0, str("a:b c"), api.OK)
	holdSetVar(t, s, api.VarFs, str(":"), api.OK)
	holdSetVar(t, s, api.VarOfs, str("+"), api.OK)
	holdSetVar(t, s, api.VarConvfmt, str("%.2f"), api.OK)
	holdRecord(t, s, "a:b c", plain(str("a:b"), str("c"))...)
	holdSetField(t, s, 3, num(0.5), api.OK)
	holdRecord(t, s, "a:b+c+0.50", plain(str("a:b"), str("c"), num(0.5))...)
	holdSetVar(t, s, api.VarConvfmt, str("%.3f"), api.OK)
	holdSetVar(t, s, api.VarOfs, num(0.25), api.OK)
	holdSetVar(t, s, api.VarNf, num(3), api.OK)
	holdRecord(t, s, "a:b0.250c0.2500.500", plain(str("a:b"), str("c"), num(0.5))...)
	holdSetField(t, s, 0, num(0.5), api.OK)
	holdRecord(t, s, "0.500", value.Input("0.500"))
	holdSetField(t, s, 0, str("p:1:"), api.OK)
	holdRecord(t, s, "p:1:", plain(str("p"), strnum(1, "1"), str(""))...)
	holdSetVar(t, s, api.VarFs, kind(0), api.OK)
	holdSetField(t, s, 0, str("a1"), api.OK)
	holdRecord(t, s, "a1", plain(str("a"), strnum(1, "1"))...)
	holdSetVar(t, s, api.VarFs, num(0.5), api.OK)
	holdSetField(t, s, 0, str("a0.500b"), api.OK)
	holdRecord(t, s, "a0.500b", plain(str("a"), str("b"))...)
	holdSetVar(t, s, api.VarOfs, kind(3+1), api.OK)
	holdSetField(t, s, 1, str("c"), api.OK)
	holdRecord(t, s, "cb", plain(str("c"), str("b"))...)
}

// P22.4, P22.7, P22.8: a separator without a text is refused just where it is needed, and the record is as before.
func TestSeparatorErrors(t *testing.T) {
	s := store.New()
	holdSetField(t, s, 0, str("x y"), api.OK)
	holdSetVar(t, s, api.VarConvfmt, num(0.5), api.OK)
	holdSetVar(t, s, api.VarFs, num(0.25), api.OK)
	before := s.Dump()
	holdSetField(t, s, 0, str("p q"), api.ErrConv)
	holdSetField(t, s, 0, str(row(most+1)), api.ErrConv)
	holdDump(t, s, before)
	holdSetVar(t, s, api.VarNf, num(1), api.OK)
	holdRecord(t, s, "x", value.Str("x"))
	holdSetField(t, s, 2, str("z"), api.OK)
	holdRecord(t, s, "x z", plain(str("x"), str("z"))...)
	holdSetVar(t, s, api.VarFs, str(" "), api.OK)
	holdSetVar(t, s, api.VarOfs, num(0.25), api.OK)
	before = s.Dump()
	holdSetField(t, s, 1, str("p"), api.ErrConv)
	holdSetVar(t, s, api.VarNf, num(1), api.ErrConv)
	holdSetVar(t, s, api.VarNf, num(0), api.ErrConv)
	holdSetVar(t, s, api.VarNf, num(-1), api.ErrField)
	holdDump(t, s, before)
	holdSetField(t, s, 0, str("1 2"), api.OK)
	holdRecord(t, s, "1 2", plain(strnum(1, "1"), strnum(2, "2"))...)
	holdSetVar(t, s, api.VarConvfmt, str(row(most)+"%g"), api.OK)
	holdSetField(t, s, 1, str("p"), api.ErrLong)
	holdSetVar(t, s, api.VarNf, num(1), api.ErrLong)
	holdSetVar(t, s, api.VarFs, num(0.25), api.OK)
	holdSetField(t, s, 0, str("p"), api.ErrLong)
	holdRecord(t, s, "1 2", plain(strnum(1, "1"), strnum(2, "2"))...)
}

// P22.7, P22.8: what the record refuses: fields without a text, and texts that are too long.
func TestRecordErrors(t *testing.T) {
	s := store.New()
	holdSetField(t, s, 0, str("a b"), api.OK)
	holdSetVar(t, s, api.VarConvfmt, str("%d"), api.OK)
	before := s.Dump()
	holdSetField(t, s, 0, num(0.5), api.ErrConv)
	holdSetField(t, s, 1, num(0.5), api.ErrConv)
	holdSetField(t, s, last, num(0.5), api.ErrConv)
	holdSetField(t, s, 0, str(row(most+1)), api.ErrLong)
	holdSetField(t, s, 2, str(row(most)), api.ErrLong)
	holdDump(t, s, before)
	holdSetVar(t, s, api.VarConvfmt, str("%g"), api.OK)
	holdSetField(t, s, 1, num(0.5), api.OK)
	holdSetVar(t, s, api.VarConvfmt, str("%d"), api.OK)
	before = s.Dump()
	holdSetVar(t, s, api.VarNf, num(1), api.ErrConv)
	holdSetField(t, s, 2, str("q"), api.ErrConv)
	holdDump(t, s, before)
	holdSetVar(t, s, api.VarOfs, str(row(most)), api.OK)
	holdSetVar(t, s, api.VarConvfmt, str("%g"), api.OK)
	before = s.Dump()
	holdSetVar(t, s, api.VarNf, num(2), api.ErrLong)
	holdSetField(t, s, 2, kind(0), api.ErrLong)
	holdDump(t, s, before)
	holdSetVar(t, s, api.VarNf, num(1), api.OK)
	holdSetField(t, s, 1, kind(0), api.OK)
	holdSetVar(t, s, api.VarNf, num(2), api.OK)
	holdRecord(t, s, row(most), api.Value{}, api.Value{})
}

// P22.7: a record with as many fields as may be, the last one all the rest.
func TestFullRecord(t *testing.T) {
	s := store.New()
	holdSetField(t, s, 0, str(strings.Repeat("x ", last+1)), api.OK)
	holdVar(t, s, api.VarNf, value.Plain(num(last)), api.OK)
	holdField(t, s, last, value.Str("x x"), api.OK)
	holdSetting(t, s, api.VarNf, "32768", api.OK)
	d := s.Dump()
	holdDump(t, load(t, d), d)
}
