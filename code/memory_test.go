package code_test

import (
	"fmt"
	"slices"
	"strings"
	"sync"
	"testing"
	"unsafe"

	"abacus/api"
	"abacus/code"
)

// shares: whether two texts lie in one memory, in part at least.
func shares(a string, b string) bool {
	if a == "" || b == "" {
		return false
	}
	p, q := uintptr(unsafe.Pointer(unsafe.StringData(a))), uintptr(unsafe.Pointer(unsafe.StringData(b)))
	return p < q+uintptr(len(b)) && q < p+uintptr(len(a))
}

// asText: a list's memory, its spare room too.
func asText[T any](list []T) string {
	if cap(list) == 0 {
		return ""
	}
	return unsafe.String((*byte)(unsafe.Pointer(unsafe.SliceData(list))), cap(list)*int(unsafe.Sizeof(list[:1][0])))
}

// given: a good code whose texts are of one memory, in lists with spare room that is filled.
func given() ([]byte, api.Code) {
	memory := []byte("one text, and another one \x00\xff")
	whole := unsafe.String(&memory[0], len(memory))
	ops := []in{{Word: api.InStr}, {Word: api.InStr, A: 1}, cat, {Word: api.InNum, A: 1}, ifNot(6), neg, pop, pop}[:6]
	return memory, api.Code{Ops: ops, Nums: []uint64{1, api.One, 2, 3}[:2], Strs: []string{whole[:8], whole[14:], "spare", "room"}[:2]}
}

// room: a code with the spare room of its lists.
func room(c api.Code) string {
	return fmt.Sprint(c.Ops[:cap(c.Ops)], c.Nums[:cap(c.Nums)], c.Strs[:cap(c.Strs)])
}

// P26.7: what Decode answers is new memory: no text of it lies in the bytes, and no two lists or texts share any.
func TestDecodeNewMemory(t *testing.T) {
	_, c := given()
	b, e := code.Encode(c)
	if e != api.OK {
		t.Fatalf("Encode: %d", e)
	}
	got, _, e := code.Decode(b)
	if e != api.OK || !same(got, c) {
		t.Fatalf("Decode: %v, %d", got, e)
	}
	parts := append(slices.Clone(got.Strs), asText(got.Ops), asText(got.Nums), asText(got.Strs), asText(b))
	for i, part := range parts {
		for _, other := range parts[:i] {
			if shares(part, other) {
				t.Errorf("%q and %q share memory", part, other)
			}
		}
	}
	clear(b[:cap(b)])
	if !same(got, c) {
		t.Errorf("the bytes were kept: %v", got)
	}
}

// P26.7: what Encode, List and Heights answer is new memory, at each call.
func TestNewMemory(t *testing.T) {
	memory, c := given()
	whole := unsafe.String(&memory[0], len(memory))
	b, _ := code.Encode(c)
	again, _ := code.Encode(c)
	list, _ := code.List(c)
	h, _, _ := code.Heights(c)
	other, _, _ := code.Heights(c)
	parts := []string{whole, asText(b), asText(again), list, asText(h), asText(other), asText(c.Ops), asText(c.Nums), asText(c.Strs)}
	for i, part := range parts {
		for _, other := range parts[:i] {
			if shares(part, other) {
				t.Errorf("%q and %q share memory", part, other)
			}
		}
	}
}

// P26.7: nothing of what is handed in is changed, its spare room neither; nor is it kept.
func TestGivenStays(t *testing.T) {
	memory, c := given()
	before := room(c) + string(memory)
	b, _ := code.Encode(c)
	list, _ := code.List(c)
	h, _, _ := code.Heights(c)
	code.Check(c)
	if after := room(c) + string(memory); after != before {
		t.Errorf("%q, then %q", before, after)
	}
	first := fmt.Sprint(b, list, h)
	bytes := append(b, 1, 2, 3)[:len(b)]
	held := fmt.Sprint(bytes[:cap(bytes)])
	code.Decode(bytes)
	if after := fmt.Sprint(bytes[:cap(bytes)]); after != held {
		t.Errorf("%s, then %s", held, after)
	}
	for i := range memory {
		memory[i] = '?'
	}
	clear(c.Ops[:cap(c.Ops)])
	clear(c.Nums[:cap(c.Nums)])
	clear(c.Strs[:cap(c.Strs)])
	if second := fmt.Sprint(b, list, h); second != first {
		t.Errorf("%s, then %s", first, second)
	}
}

// P26.7: the same calls answer the same, whatever was called ahead of them or beside them, and whatever is written into what they answered.
func TestNothingIsKept(t *testing.T) {
	want := answers()
	var group sync.WaitGroup
	for range 8 {
		group.Go(func() {
			for range 50 {
				if got := answers(); got != want {
					t.Errorf("%s, then %s", want, got)
				}
			}
		})
	}
	group.Wait()
}

// answers: what some calls answer; the lists are cleared behind that, their spare room too.
func answers() string {
	var out strings.Builder
	_, mixed := given()
	for _, c := range []api.Code{mixed, {}, chain(1), chain(200), {Ops: []in{pop}}, {Ops: []in{variable, jump(3), pop}}} {
		h, at, e := code.Heights(c)
		most, place, f := code.Check(c)
		b, g := code.Encode(c)
		list, l := code.List(c)
		got, from, d := code.Decode(b)
		takes, puts, ok := code.Effect(append(c.Ops, pop)[0])
		fmt.Fprintln(&out, h, at, e, most, place, f, b, g, list, l, got, from, d, takes, puts, ok)
		clear(h[:cap(h)])
		clear(b[:cap(b)])
		clear(got.Ops[:cap(got.Ops)])
		clear(got.Nums[:cap(got.Nums)])
		clear(got.Strs[:cap(got.Strs)])
	}
	return out.String()
}
