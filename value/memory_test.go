package value_test

import (
	"strconv"
	"strings"
	"sync"
	"testing"
	"unsafe"

	"abacus/api"
	"abacus/value"
)

// shares: whether two texts lie in one memory, in part at least.
func shares(a string, b string) bool {
	if a == "" || b == "" {
		return false
	}
	p, q := uintptr(unsafe.Pointer(unsafe.StringData(a))), uintptr(unsafe.Pointer(unsafe.StringData(b)))
	return p < q+uintptr(len(b)) && q < p+uintptr(len(a))
}

// P2: what is answered is no piece of a text that was handed in.
func TestNewMemory(t *testing.T) {
	for _, given := range []string{"a", "7", "text", " 12 ", strings.Repeat("long", 500)} {
		s := strings.Clone(given)
		for _, v := range []api.Value{value.Str(s), value.Input(s), value.Plain(str(s)), value.Plain(strnum(1, s))} {
			if v.Str != given || shares(v.Str, s) {
				t.Errorf("a value of %q: %q, in its memory %v", brief(given), brief(v.Str), shares(v.Str, s))
			}
		}
		for _, v := range []api.Value{str(s), strnum(1, s)} {
			if got, _ := value.ToStr(v, "%g"); shares(got, s) {
				t.Errorf("ToStr of %q answers its text's memory", brief(given))
			}
		}
		for _, convfmt := range []string{s + "%g", "%g" + s, s + "%g" + s} {
			if got, _ := value.ToStr(num(0.5), convfmt); shares(got, convfmt) {
				t.Errorf("ToStr by %q answers its format's memory", brief(convfmt))
			}
		}
	}
}

// P2: the same call answers the same, whatever was called ahead of it or beside it.
func TestNothingIsKept(t *testing.T) {
	want := answers()
	var group sync.WaitGroup
	for range 8 {
		group.Go(func() {
			for range 200 {
				if got := answers(); got != want {
					t.Errorf("%q, then %q", want, got)
				}
			}
		})
	}
	group.Wait()
}

// answers: what some calls answer, refused ones among them.
func answers() string {
	a, e := value.ToStr(num(0.1), "%.17g")
	b, f := value.ToStr(num(0.1), "%d")
	c, g := value.ToStr(num(12), "%d")
	d, ok := value.Integer(bits(-1e15))
	v, w := value.Input(" 1e3"), value.Input("1e3x")
	list := []string{a, b, c, d, v.Str, w.Str, strconv.FormatBool(ok), strconv.FormatBool(value.Truth(v)), strconv.FormatBool(value.Numeric(w))}
	for _, n := range []uint64{uint64(e), uint64(f), uint64(g), v.Num, w.Num, value.ToNum(w)} {
		list = append(list, strconv.FormatUint(n, 16))
	}
	return strings.Join(list, "|")
}
