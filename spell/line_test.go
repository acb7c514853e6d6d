package spell_test

import (
	"math"
	"strings"
	"testing"

	"abacus/api"
)

// P19.3: the document's examples, and the like.
func TestLineExamples(t *testing.T) {
	for _, c := range []struct {
		ofmt, ofs, ors string
		vals           []api.Value
		text           string
		e              api.Errno
	}{
		{"%.6g", " ", "\n", []api.Value{num(1), num(0.1), str("x")}, "1 0.1 x\n", api.OK},
		{"%.2f", ",", ";", []api.Value{num(3.14159), num(2)}, "3.14,2;", api.OK},
		{"", "", "!", nil, "!", api.OK},
		{"", ",", "", nil, "", api.OK},
		{"%d", ",", "\n", nil, "\n", api.OK},
		{"", ",", ";", []api.Value{{}}, ";", api.OK},
		{"", ",", ";", []api.Value{{}, kind(9), str("")}, ",,;", api.OK},
		{"", ", ", "", []api.Value{str("a"), str("b"), str("c")}, "a, b, c", api.OK},
		{"", "", "", []api.Value{str("a"), str("b"), str("c")}, "abc", api.OK},
		{"", "%s", "%d", []api.Value{str("%g"), num(5)}, "%g%s5%d", api.OK},
		{"", "\x00", "\xff", []api.Value{strnum(0.5, " .50 "), num(-7)}, " .50 \x00-7\xff", api.OK},
		{"%.6g", " ", "\n", []api.Value{num(7), num(7.0 / 3)}, "7 2.33333\n", api.OK},
		{"%.6g", " ", "\n", []api.Value{num(math.Inf(1)), num(math.Inf(-1)), pattern(api.NaN | minus)}, "inf -inf -nan\n", api.OK},
		{"%.6g", " ", "\n", []api.Value{num(0), num(5.551115123125783e-17)}, "0 5.55112e-17\n", api.OK},
		{"<%.1f%%>", "", "", []api.Value{num(0.25), num(1 << 63)}, "<0.2%><9223372036854775808.0%>", api.OK},
		{"%d", " ", "\n", []api.Value{num(1), num(0.1)}, "", api.ErrConv},
		{"%d", " ", "\n", []api.Value{num(1), strnum(0.1, "0.1"), str("0.1")}, "1 0.1 0.1\n", api.OK},
		{"", " ", "\n", []api.Value{pattern(api.NaN)}, "", api.ErrConv},
	} {
		holdLine(t, c.ofmt, c.ofs, c.ors, c.vals, c.text, c.e)
	}
}

// P19.3: the values' faults come from the left, of each ErrConv ahead of the length.
func TestLineErrorOrder(t *testing.T) {
	full := strings.Repeat("x", api.MaxText)
	half, long := num(0.5), str(full+"y")
	for _, c := range []struct {
		vals []api.Value
		e    api.Errno
	}{
		{[]api.Value{half, long}, api.ErrConv},
		{[]api.Value{long, half}, api.ErrLong},
		{[]api.Value{str(full), half}, api.ErrConv},
		{[]api.Value{str(full), num(1), half}, api.ErrLong},
		{[]api.Value{str(full), {}, half}, api.ErrLong},
		{[]api.Value{str("a"), half, long}, api.ErrConv},
		{[]api.Value{str("a"), str("b"), half}, api.ErrConv},
	} {
		holdLine(t, "%d", ",", ";", c.vals, "", c.e)
	}
	holdLine(t, "%d", ",", full+"y", []api.Value{half}, "", api.ErrConv)
	holdLine(t, full+"%g", ",", "", []api.Value{half}, "", api.ErrLong)
	holdLine(t, full+"%g", ",", "", []api.Value{num(5)}, "5", api.OK)
}

// P19.3: texts, what stands between them and what stands behind them may have MaxText bytes in all, and not one more.
func TestLineLong(t *testing.T) {
	long := strings.Repeat("x", api.MaxText+1)
	full := long[1:]
	a, b := full[:api.MaxText/2], full[:api.MaxText/2-1]
	holdLine(t, "", "", full, nil, full, api.OK)
	holdLine(t, "", "", long, nil, "", api.ErrLong)
	holdLine(t, "", long, "", nil, "", api.OK)
	holdLine(t, "", long, ";", []api.Value{str("a")}, "a;", api.OK)
	holdLine(t, "", long, "", []api.Value{{}, {}}, "", api.ErrLong)
	holdLine(t, "", full, "", []api.Value{{}, {}}, full, api.OK)
	holdLine(t, "", full, ";", []api.Value{{}, {}}, "", api.ErrLong)
	holdLine(t, "", full, "", []api.Value{{}, num(1)}, "", api.ErrLong)
	holdLine(t, "", ",", "", []api.Value{str(full)}, full, api.OK)
	holdLine(t, "", ",", ";", []api.Value{str(full)}, "", api.ErrLong)
	holdLine(t, "", ",", ";", []api.Value{str(full[1:])}, full[1:]+";", api.OK)
	holdLine(t, "", ",", "", []api.Value{strnum(1, long)}, "", api.ErrLong)
	holdLine(t, "", ",", "", []api.Value{str(a), str(b)}, a+","+b, api.OK)
	holdLine(t, "", ",", ";", []api.Value{str(a), str(b)}, "", api.ErrLong)
	holdLine(t, "", ",", "", []api.Value{str(a), str(a)}, "", api.ErrLong)
	holdLine(t, "", "", "", []api.Value{str(a), {}, strnum(1, a), {}}, full, api.OK)
	holdLine(t, full[3:]+"%g", ",", "", []api.Value{num(0.5)}, full[3:]+"0.5", api.OK)
	holdLine(t, full[3:]+"%g", ",", ";", []api.Value{num(0.5)}, "", api.ErrLong)
	holdLine(t, "%4096g", full[8192:], "", []api.Value{num(0.5), num(0.5)}, strings.Repeat(" ", 4093)+"0.5"+full[8192:]+strings.Repeat(" ", 4093)+"0.5", api.OK)
	holdLine(t, "%4096g", full[8191:], "", []api.Value{num(0.5), num(0.5)}, "", api.ErrLong)
}

// P19.3: drawn values, held against a list of texts that is joined.
func TestLineDrawn(t *testing.T) {
	seed := uint64(193)
	met := map[api.Errno]int{}
	for range 60000 {
		vals := drawList(&seed, between(&seed, 0, 5))
		ofmt := pick(&seed, "%.6g", "%.2f", "<%.9e>", "%%%.3g%%", "%d", "")
		ofs, ors := pick(&seed, "", " ", ", ", "%d", "\x00"), pick(&seed, "", "\n", ";;", "%")
		list, e := []string{}, api.OK
		for _, v := range vals {
			text, fault := textOf(v, ofmt)
			if fault != api.OK {
				e = fault
			}
			list = append(list, text)
		}
		met[e]++
		want := strings.Join(list, ofs) + ors
		if e != api.OK {
			want = ""
		}
		holdLine(t, ofmt, ofs, ors, vals, want, e)
	}
	if met[api.OK] < 1000 || met[api.ErrConv] < 1000 {
		t.Errorf("met %v", met)
	}
}

// P1: many values in one line.
func TestLineMany(t *testing.T) {
	const n = 500000
	vals := make([]api.Value, n)
	for i := range vals {
		vals[i] = str(string(rune('a' + i%5)))
	}
	holdLine(t, "", ",", "", vals, strings.TrimSuffix(strings.Repeat("a,b,c,d,e,", n/5), ","), api.OK)
	holdLine(t, "", strings.Repeat(",", 40), "", vals, "", api.ErrLong)
}
