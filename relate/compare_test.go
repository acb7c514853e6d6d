package relate_test

import (
	"fmt"
	"math"
	"regexp"
	"strings"
	"testing"

	"abacus/api"
	"abacus/relate"
)

var directive = regexp.MustCompile(`%[.0-9]*[a-z]`)

// textOf: a value's text by a format with one directive, told by the host's printf but for NaNs and infinities.
func textOf(v api.Value, convfmt string) string {
	switch v.Kind {
	case api.KindStr, api.KindStrnum:
		return v.Str
	case api.KindNum:
		x := math.Float64frombits(v.Num)
		switch {
		case math.IsNaN(x) && math.Signbit(x):
			return directive.ReplaceAllString(convfmt, "-nan")
		case math.IsNaN(x):
			return directive.ReplaceAllString(convfmt, "nan")
		case math.IsInf(x, 0):
			return directive.ReplaceAllString(convfmt, strings.TrimPrefix(strings.ToLower(fmt.Sprint(x)), "+"))
		case x == math.Trunc(x) && math.Abs(x) < 1<<63:
			return fmt.Sprint(int64(x))
		}
		return fmt.Sprintf(convfmt, x)
	}
	return ""
}

// P18.1: the document's examples, and the like.
func TestCompareExamples(t *testing.T) {
	none, nan := api.Value{}, pattern(api.NaN)
	for _, r := range []struct {
		a, b    api.Value
		convfmt string
		c       int
	}{
		{num(10), num(9), "", 1},
		{str("10"), num(9), "%.6g", -1},
		{strnum(10, " 10 "), num(9), "", 1},
		{strnum(10, " 10 "), strnum(9, "9"), "", 1},
		{strnum(10, "10"), str("9"), "", -1},
		{strnum(10, " 10 "), str("10"), "", -1},
		{strnum(1, "1.0"), num(1), "", 0},
		{strnum(1, "1.0"), str("1"), "", 1},
		{none, num(0), "", 0},
		{none, num(math.Copysign(0, -1)), "", 0},
		{none, strnum(0, "0.0"), "", 0},
		{none, none, "", 0},
		{none, num(-1), "", 1},
		{none, str(""), "", 0},
		{none, str("a"), "", -1},
		{none, str("\x00"), "", -1},
		{none, str("0"), "", -1},
		{kind(9), num(0), "", 0},
		{kind(-1), str(""), "", 0},
		{num(math.Copysign(0, -1)), num(0), "", 0},
		{num(math.Copysign(0, -1)), str("0"), "", 0},
		{nan, nan, "", 2},
		{nan, num(0), "", 2},
		{nan, none, "", 2},
		{nan, strnum(1, "1"), "", 2},
		{nan, num(math.Inf(1)), "", 2},
		{nan, str("nan"), "%.6g", 0},
		{pattern(api.NaN | minus), str("-nan"), "%.6g", 0},
		{num(math.Inf(-1)), str("-inf"), "%.6g", 0},
		{num(0.1), str("0.1"), "%.2f", 1},
		{num(0.1), str("0.1"), "%.6g", 0},
		{num(3), str("3"), "%d", 0},
		{num(3), str("3"), "", 0},
		{num(0.5), str("a0.50b%"), "a%.2fb%%", 0},
		{str("a"), str("ab"), "", -1},
		{str("\xff"), str("a"), "", 1},
		{str("\x80"), str("\x7f"), "", 1},
		{str("A"), str("a"), "", -1},
	} {
		holdCompare(t, r.a, r.b, r.convfmt, r.c)
	}
}

// P18.1, P6: every sample with every other: numeric ones by the host's floats, all others by their texts byte by byte.
func TestComparePairs(t *testing.T) {
	list := samples()
	for _, convfmt := range []string{"%.6g", "%.30f", "x%.2ey"} {
		for i, a := range list {
			for _, b := range list[i:] {
				want := byFloats(float(a), float(b))
				if isText(a) || isText(b) {
					want = byBytes(textOf(a, convfmt), textOf(b, convfmt))
				}
				holdCompare(t, a, b, convfmt, want)
			}
		}
	}
}

// P18.1: drawn doubles and texts of few bytes.
func TestCompareDrawn(t *testing.T) {
	seed := uint64(181)
	bytes := func() string {
		b := make([]byte, between(&seed, 0, 5))
		for i := range b {
			b[i] = pick[byte](&seed, 'a', 'b', 0, 0xff, 0x80)
		}
		return string(b)
	}
	for range 100000 {
		x, y := random(&seed), random(&seed)
		if random(&seed)%2 == 0 {
			y = x + uint64(between(&seed, -1, 1))
		}
		a, b := api.Value{Kind: pick(&seed, api.KindNum, api.KindStrnum), Num: x, Str: "7"}, api.Value{Kind: pick(&seed, api.KindNum, api.KindStrnum), Num: y, Str: "8"}
		holdCompare(t, a, b, "none", byFloats(float(a), float(b)))
		s, u := bytes(), bytes()
		holdCompare(t, str(s), str(u), "none", byBytes(s, u))
		holdCompare(t, str(s), strnum(1, u), "none", byBytes(s, u))
	}
}

// P18.1: a format that is none is an error just where a number that isn't whole stands beside a string, on either side.
func TestCompareNeedsFormat(t *testing.T) {
	for _, convfmt := range []string{"", "x", "%", "%d", "%s", "%c", "%g%g", "%*g", "%.6", "%5000g", "%.5000g"} {
		for _, v := range []api.Value{num(0.5), num(-0.1), num(1 << 63), num(math.Inf(1)), num(math.Inf(-1)), pattern(api.NaN), pattern(api.NaN | minus), pattern(1)} {
			for _, s := range texts() {
				holdRefused(t, v, str(s), convfmt, api.ErrConv)
				holdRefused(t, str(s), v, convfmt, api.ErrConv)
			}
			for _, w := range []api.Value{{}, num(3), num(0.5), strnum(0.5, "0.5"), kind(4), pattern(api.NaN)} {
				holdCompare(t, v, w, convfmt, byFloats(float(v), float(w)))
			}
		}
		for _, v := range []api.Value{{}, kind(5), num(3), num(-1e18), str("x"), strnum(0.5, "0.5"), {Kind: api.KindStrnum, Num: api.NaN, Str: "9"}} {
			holdCompare(t, v, str("5"), convfmt, byBytes(textOf(v, "%g"), "5"))
		}
	}
}

// P18.1: a number's text of MaxText bytes is compared to its last byte.
func TestCompareLong(t *testing.T) {
	ahead := strings.Repeat("a", api.MaxText-len("5e-01"))
	holdCompare(t, num(0.5), str(ahead+"5e-01"), ahead+"%.0e", 0)
	holdCompare(t, num(0.5), str(ahead+"5e-02"), ahead+"%.0e", -1)
	holdCompare(t, num(0.5), str(ahead+"5e-01!"), ahead+"%.0e", -1)
}

// P18.1: a number's text that would be one byte too long is refused, on either side, and only where it is needed; other texts have no limit.
func TestCompareTooLong(t *testing.T) {
	beyond := strings.Repeat("a", api.MaxText-4) + "%.0e"
	holdRefused(t, num(0.5), str("x"), beyond, api.ErrLong)
	holdRefused(t, str("x"), num(0.5), beyond, api.ErrLong)
	holdRefused(t, str("x"), pattern(api.NaN), beyond+"bb", api.ErrLong)
	holdCompare(t, num(0.5), num(0.25), beyond, 1)
	holdCompare(t, num(7), str("7"), beyond, 0)
	long := strings.Repeat("b", api.MaxText+1)
	holdCompare(t, str(long), str(long+"b"), beyond, -1)
	holdCompare(t, str(long), strnum(1, long), beyond, 0)
	holdCompare(t, str(long+"a"), str(long+"b"), beyond, -1)
}

// P18.1: a relation outside the table is refused ahead of all else.
func TestHoldsWrongRelation(t *testing.T) {
	for _, op := range []int{0, 7, 8, -1, -6, 255, 256 + api.EQ, 1<<32 + api.EQ, minInt, minInt + api.EQ, maxInt} {
		for _, a := range []api.Value{{}, num(0.5), str("x"), strnum(1, "1"), pattern(api.NaN), kind(6)} {
			for _, b := range []api.Value{{}, num(0.5), str("x"), kind(-2)} {
				if ok, e := relate.Holds(op, a, b, "%d"); ok || e != api.ErrOp {
					t.Errorf("Holds(%d, %s, %s) = %v, error %d", op, show(a), show(b), ok, e)
				}
			}
		}
	}
}
