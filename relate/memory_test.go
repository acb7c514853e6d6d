package relate_test

import (
	"runtime"
	"slices"
	"strings"
	"sync"
	"testing"
	"unsafe"
	"weak"

	"abacus/api"
	"abacus/relate"
)

// shares: whether two texts lie in one memory, in part at least.
func shares(a string, b string) bool {
	if a == "" || b == "" {
		return false
	}
	p, q := uintptr(unsafe.Pointer(unsafe.StringData(a))), uintptr(unsafe.Pointer(unsafe.StringData(b)))
	return p < q+uintptr(len(b)) && q < p+uintptr(len(a))
}

// P18.5: what a queue answers is no piece of a text that was handed in, nor of one that another answer has.
func TestQueueNewMemory(t *testing.T) {
	for _, given := range []string{"a", "12", strings.Repeat("long", 500)} {
		for _, make := range []func(string) api.Value{str, func(s string) api.Value { return strnum(1, s) }} {
			s := strings.Clone(given)
			q := relate.NewQueue()
			q.Push(make(s))
			a, _, _ := q.Peek()
			b, _, _ := q.Peek()
			c, _, _ := q.Pop()
			all := []string{s, a.Str, b.Str, c.Str}
			for i, x := range all {
				for j, y := range all[:i] {
					if x != y || shares(x, y) {
						t.Errorf("the texts %d and %d of %q: alike %v, in one memory %v", i, j, given[:1], x == y, shares(x, y))
					}
				}
			}
		}
	}
}

// P18.5: a text that lies in memory of the caller's may change behind the call: the queue keeps its own.
func TestQueueKeepsItsOwn(t *testing.T) {
	memory := []byte("bbbb")
	q := relate.NewQueue()
	q.Push(str(unsafe.String(&memory[0], len(memory))))
	q.Push(str("cc"))
	copy(memory, "zzzz")
	q.Push(str("d"))
	for _, want := range []string{"bbbb", "cc", "d"} {
		if v, _, _ := q.Pop(); v.Str != want {
			t.Errorf("Pop = %q; want %q", v.Str, want)
		}
	}
}

// P18.5, P2: what is taken out isn't kept, in the spare room neither.
func TestQueueLetsGo(t *testing.T) {
	q := relate.NewQueue()
	for i := range 40 {
		q.Push(str(strings.Repeat(string(rune('A'+i*7%40)), 1000)))
	}
	var gone []weak.Pointer[byte]
	for range 30 {
		v, _, _ := q.Pop()
		gone = append(gone, weak.Make(unsafe.StringData(v.Str)))
	}
	runtime.GC()
	for i, p := range gone {
		if p.Value() != nil {
			t.Errorf("text %d that was taken out is kept", i)
		}
	}
	if q.Len() != 10 {
		t.Errorf("Len = %d", q.Len())
	}
}

// P18.5: a list that is handed in stays as it is, its spare room too, and what is answered is new, whatever a caller does to it.
func TestListsNewMemory(t *testing.T) {
	seed := uint64(185)
	whole := drawList(&seed, 40)
	given := slices.Clone(whole)
	vs := whole[5:20]
	a, b := relate.Sort(vs), relate.Sort(vs)
	c, d := relate.Top(vs, 4), relate.Top(vs, 100)
	for _, list := range [][]int{a, c, d} {
		for i := range list[:cap(list)] {
			list[:cap(list)][i] = -9
		}
	}
	if want := places(vs); !slices.Equal(b, want) || !slices.Equal(relate.Sort(vs), want) || !slices.Equal(relate.Top(vs, 4), want[:4]) {
		t.Errorf("an answer changed with another: %v; want %v", b, want)
	}
	if !slices.Equal(whole, given) {
		t.Error("a list that was handed in was changed")
	}
}

// P2: the same call answers the same, whatever was called ahead of it or beside it.
func TestNothingIsKept(t *testing.T) {
	want := answers()
	var group sync.WaitGroup
	for range 8 {
		group.Go(func() {
			for range 200 {
				if got := answers(); !slices.Equal(got, want) {
					t.Errorf("%v, then %v", want, got)
				}
			}
		})
	}
	group.Wait()
}

// answers: what some calls answer, refused ones among them.
func answers() []int {
	var list []int
	vs := []api.Value{str("b"), num(2), pattern(api.NaN), {}, str(""), strnum(2, "2.0"), num(0.5)}
	q := relate.NewQueue()
	for _, a := range vs {
		for _, b := range vs {
			c, e := relate.Compare(a, b, "%d")
			d, f := relate.Compare(a, b, "%.3g")
			list = append(list, c, int(e), d, int(f), relate.Order(a, b), q.Push(a))
		}
		_, n, _ := q.Pop()
		list = append(list, n, q.Len())
	}
	_, e := relate.Holds(9, vs[0], vs[1], "")
	return append(append(append(list, int(e)), relate.Sort(vs)...), relate.Top(vs, 3)...)
}
