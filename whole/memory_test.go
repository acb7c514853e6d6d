package whole_test

import (
	"slices"
	"strings"
	"sync"
	"testing"
	"unsafe"

	"abacus/api"
	"abacus/whole"
)

// shares: whether two texts lie in one memory, in part at least.
func shares(a string, b string) bool {
	if a == "" || b == "" {
		return false
	}
	p, q := uintptr(unsafe.Pointer(unsafe.StringData(a))), uintptr(unsafe.Pointer(unsafe.StringData(b)))
	return p < q+uintptr(len(b)) && q < p+uintptr(len(a))
}

// P2, P14.1, P14.4: what is answered is no piece of a text that was handed in.
func TestNewMemory(t *testing.T) {
	for _, text := range []string{"a", "text", strings.Repeat("long", 500)} {
		for _, prec := range []int{-1, 0, 1, 3, 4096} {
			for _, width := range []int{0, 1, 4, 5, 4096} {
				s := api.Spec{Verb: 's', Width: width, Prec: prec}
				if got, _ := whole.Text(s, text); shares(got, text) {
					t.Errorf("Text by %+v answers a piece of its text", s)
				}
				for _, c := range []struct{ head, body string }{{text, ""}, {"", text}, {text, text}} {
					if got, _ := whole.Pad(s, c.head, c.body, true); shares(got, text) {
						t.Errorf("Pad by %+v answers its own text", s)
					}
				}
				s.Verb = 'c'
				if got, _ := whole.Char(s, text); shares(got, text) {
					t.Errorf("Char by %+v answers a piece of its text", s)
				}
			}
		}
	}
}

// P2, P14.2: a natural that is handed in stays as it is, its spare room too.
func TestOperandsStay(t *testing.T) {
	for _, n := range [][]uint64{nil, {0}, {7}, {7, 0, 0}, {0, 1}, limbs(50, top), append(limbs(40, 9), 0), limbs(api.MaxLimbs+1, 3)} {
		memory := append(slices.Clone(n), 0xabc, top, 1)
		before := slices.Clone(memory)
		for _, s := range []api.Spec{spec("%d"), spec("%+050.30i"), spec("%x"), spec("%5000d")} {
			whole.Signed(s, true, memory[:len(n)])
		}
		if !slices.Equal(memory, before) {
			t.Fatalf("an operand was changed: %.60v", n)
		}
	}
}

// P2: the same call answers the same, whatever was called ahead of it or beside it.
func TestNothingIsKept(t *testing.T) {
	want := told()
	var group sync.WaitGroup
	for range 8 {
		group.Go(func() {
			for range 200 {
				if got := told(); got != want {
					t.Errorf("%q, then %q", want, got)
				}
			}
		})
	}
	group.Wait()
}

// told: what some calls answer, refused ones among them.
func told() string {
	a, _ := whole.Signed(spec("%+030d"), true, []uint64{5, 5})
	b, _ := whole.Signed(spec("%5000d"), true, []uint64{5, 5})
	c, _ := whole.Unsigned(spec("%#-20X"), 0xbeef)
	d, _ := whole.Unsigned(spec("%#.0o"), 0)
	e, _ := whole.Text(spec("%-9.3s"), "abcdef")
	f, _ := whole.Char(spec("%03c"), "xyz")
	return strings.Join([]string{a, b, c, d, e, f}, "|")
}
