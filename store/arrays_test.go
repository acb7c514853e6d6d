package store_test

import (
	"fmt"
	"slices"
	"strings"
	"testing"

	"abacus/api"
	"abacus/store"
	"abacus/value"
)

// P22.6: the chapter's example: Elem makes an element, Has doesn't, Delete takes it out.
func TestElements(t *testing.T) {
	s := store.New()
	holdHas(t, s, 0, "k", false, api.OK)
	holdHas(t, s, 0, "k", false, api.OK)
	holdElem(t, s, 0, "k", api.Value{}, api.OK)
	holdHas(t, s, 0, "k", true, api.OK)
	holdKeys(t, s, 0, "k")
	holdElem(t, s, 0, "k", api.Value{}, api.OK)
	holdDelete(t, s, 0, "k", api.OK)
	holdHas(t, s, 0, "k", false, api.OK)
	holdDelete(t, s, 0, "k", api.OK)
	for _, key := range []string{"b", "", "a"} {
		holdSetElem(t, s, 0, key, str("of "+key), api.OK)
	}
	holdKeys(t, s, 0, "", "a", "b")
	for _, key := range []string{"b", "", "a"} {
		holdElem(t, s, 0, key, value.Str("of "+key), api.OK)
	}
	holdDelete(t, s, 0, "", api.OK)
	holdKeys(t, s, 0, "a", "b")
	holdWipe(t, s, 0, api.OK)
	holdKeys(t, s, 0)
	holdHas(t, s, 0, "a", false, api.OK)
	holdElem(t, s, 0, "a", api.Value{}, api.OK)
	holdSetElem(t, s, 0, "a", num(1), api.OK)
	holdElem(t, s, 0, "a", value.Num(api.One), api.OK)
}

// P22.6: an element becomes another value as often as it is set, in plain form, and no value is one too.
func TestSetElements(t *testing.T) {
	s := store.New()
	for _, v := range []api.Value{num(1), str("x"), strnum(7, "z"), kind(0), str(""), kind(9), kind(-1), num(2)} {
		holdSetElem(t, s, 3, "k", v, api.OK)
		holdHas(t, s, 3, "k", true, api.OK)
		holdElem(t, s, 3, "k", value.Plain(v), api.OK)
		holdKeys(t, s, 3, "k")
	}
}

// P22.6: the keys are any texts, told apart by their bytes alone, and stand in the order of these.
func TestKeys(t *testing.T) {
	s := store.New()
	want := []string{"", "\x00", "\x00\x00", " ", "+1", "01", "1", "1.0", "10", "9", "A", "B", "a", "a\x00", "a\x1cb", "ab", "b", "\x80", "\xc3\xa9", "\xff", "\xff\xff"}
	for i := range want {
		key := want[(i*8)%len(want)]
		holdSetElem(t, s, 63, key, str(key), api.OK)
	}
	holdKeys(t, s, 63, want...)
	for _, key := range want {
		holdElem(t, s, 63, key, value.Str(key), api.OK)
		holdHas(t, s, 63, key+"?", false, api.OK)
	}
	holdKeys(t, s, 63, want...)
	long := row(most + 1)
	holdSetElem(t, s, 62, long, num(1), api.OK)
	holdHas(t, s, 62, long, true, api.OK)
	holdHas(t, s, 62, long[1:], false, api.OK)
	holdKeys(t, s, 62, long)
}

// P22.6: each array has elements of its own, and shares none with variables and fields.
func TestManyArrays(t *testing.T) {
	s := store.New()
	before := s.Dump()
	for a := range arrays {
		for k := range a % 5 {
			holdSetElem(t, s, a, fmt.Sprint(k), num(float64(100*a+k)), api.OK)
		}
	}
	holdWipe(t, s, 4, api.OK)
	holdDelete(t, s, 3, "1", api.OK)
	for a := range arrays {
		var want []string
		for k := range a % 5 {
			if a != 4 && (a != 3 || k != 1) {
				want = append(want, fmt.Sprint(k))
				holdElem(t, s, a, fmt.Sprint(k), value.Plain(num(float64(100*a+k))), api.OK)
			}
		}
		holdKeys(t, s, a, want...)
	}
	for a := range arrays {
		holdWipe(t, s, a, api.OK)
		holdWipe(t, s, a, api.OK)
	}
	holdDump(t, s, before)
}

// P22.6: numbers outside 0 to MaxArrays - 1 are refused, and nothing is made.
func TestArrayNumbers(t *testing.T) {
	s := store.New()
	holdSetElem(t, s, 0, "k", num(1), api.OK)
	holdSetElem(t, s, arrays-1, "k", num(1), api.OK)
	before := s.Dump()
	for _, a := range faulty(arrays) {
		holdElem(t, s, a, "k", api.Value{}, api.ErrArray)
		holdSetElem(t, s, a, "k", num(2), api.ErrArray)
		holdHas(t, s, a, "k", false, api.ErrArray)
		holdDelete(t, s, a, "k", api.ErrArray)
		holdWipe(t, s, a, api.ErrArray)
		if keys, e := s.Keys(a); len(keys) != 0 || e != api.ErrArray {
			t.Errorf("Keys(%d) = %q, error %d", a, keys, e)
		}
	}
	holdDump(t, s, before)
}

// P22.6: an array with many elements, of which some are taken out again.
func TestManyElements(t *testing.T) {
	s := store.New()
	var want []string
	for i := range 50000 {
		key := strings.Repeat("0", i%7) + fmt.Sprint(i)
		holdSetElem(t, s, 1, key, num(float64(i)), api.OK)
		if i%3 != 0 {
			want = append(want, key)
		}
	}
	for i := 0; i < 50000; i += 3 {
		holdDelete(t, s, 1, strings.Repeat("0", i%7)+fmt.Sprint(i), api.OK)
	}
	slices.Sort(want)
	holdKeys(t, s, 1, want...)
	holdDump(t, load(t, s.Dump()), s.Dump())
	holdWipe(t, s, 1, api.OK)
	holdKeys(t, s, 1)
}
