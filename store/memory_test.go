package store_test

import (
	"fmt"
	"slices"
	"sync"
	"testing"
	"unsafe"

	"abacus/api"
	"abacus/store"
	"abacus/value"
)

// shares: whether two texts lie in one memory, in part at least.
func shares(a string, b string) bool {
	if a == "" || b == "" {
		return false
	}
	p, q := uintptr(unsafe.Pointer(unsafe.StringData(a))), uintptr(unsafe.Pointer(unsafe.StringData(b)))
	return p < q+uintptr(len(b)) && q < p+uintptr(len(a))
}

// textsOf: all the texts that a store answers.
func textsOf(s *store.Store) []string {
	d := s.Dump()
	list := []string{d.Record}
	for _, v := range slices.Concat(d.Vars, d.Fields) {
		list = append(list, v.Str)
	}
	for a, array := range d.Arrays {
		keys, _ := s.Keys(a)
		list = append(list, keys...)
		for _, item := range array {
			v, _ := s.Elem(a, item.Key)
			list = append(list, item.Key, item.Val.Str, v.Str)
		}
	}
	for i := range d.Vars {
		v, _ := s.Var(i)
		text, _ := s.Setting(i)
		list = append(list, v.Str, text)
	}
	for i := range len(d.Fields) + 1 {
		v, _ := s.Field(i)
		list = append(list, v.Str)
	}
	return list
}

// filled: stores that hold a text at every place where one can stand, by every call that takes one.
func filled(s string) map[string]*store.Store {
	list := map[string]*store.Store{}
	make := func(name string, change func(*store.Store)) {
		list[name] = store.New()
		change(list[name])
	}
	for i := range api.VarNf {
		make(fmt.Sprint("variable ", i), func(to *store.Store) { to.SetVar(i, str(s)) })
	}
	make("a strnum", func(to *store.Store) { to.SetVar(99, strnum(1, s)) })
	make("an element", func(to *store.Store) { to.SetElem(0, "k", str(s)) })
	make("a key", func(to *store.Store) { to.SetElem(0, s, num(1)) })
	make("a key set twice", func(to *store.Store) { to.SetElem(0, string([]byte(s)), num(1)); to.SetElem(0, s, num(2)) })
	make("a key asked for", func(to *store.Store) { to.Elem(0, s) })
	make("the text", func(to *store.Store) { to.SetField(0, str(s)) })
	make("a field", func(to *store.Store) { to.SetField(2, str(s)) })
	make("OFS", func(to *store.Store) { to.SetVar(api.VarOfs, str(s)); to.SetVar(api.VarNf, num(2)) })
	make("FS", func(to *store.Store) { to.SetVar(api.VarFs, str(s)); to.SetField(0, str("p"+s+"q")) })
	list["a state"], _ = store.Load(api.State{Vars: []api.Value{str(s), strnum(1, s)}, Arrays: [][]api.Item{{{Key: s, Val: str(s)}}}, Record: s, Fields: []api.Value{str(s)}})
	return list
}

// P22.8: no answer is a piece of a text that was handed in, and no two answers share memory.
func TestNewMemory(t *testing.T) {
	for _, given := range []string{"e", "te t", "12", row(500)} {
		s := string([]byte(given))
		for name, of := range filled(s) {
			list := append(textsOf(of), textsOf(of)...)
			for i, text := range list {
				if shares(text, s) {
					t.Errorf("%s: an answer is a piece of the text", name)
				}
				for _, other := range list[:i] {
					if shares(text, other) && !slices.Contains([]string{"0", "1", "2"}, text) { // NF's digits are constants
						t.Errorf("%s: two answers share %.20q", name, text)
					}
				}
			}
		}
	}
}

// P22.8: a text's memory that is written over behind the call changes no store.
func TestTextsAreNotKept(t *testing.T) {
	memory := []byte("b e b")
	s := unsafe.String(&memory[0], len(memory))
	list := filled(s)
	copy(memory, "zzzzz")
	for name, want := range filled("b e b") {
		if got := list[name].Dump(); !same(got, want.Dump()) {
			t.Errorf("%s: %v, want %v", name, got, want.Dump())
		}
	}
	holdHas(t, list["a key set twice"], 0, "b e b", true, api.OK)
	holdHas(t, list["a state"], 0, "b e b", true, api.OK)
}

// P22.8: a state's lists aren't changed or kept, their spare room neither.
func TestGivenLists(t *testing.T) {
	vars := []api.Value{str(usual), kind(7), str("spare"), str("spare")}
	elements := []api.Item{{Key: "a", Val: kind(9)}, {Key: "b", Val: str("b")}, {Key: "spare"}}
	fields := []api.Value{num(1), str("f"), str("spare")}
	lists := [][]api.Item{elements[:2], items("spare")}
	s := load(t, api.State{Vars: vars[:2], Arrays: lists[:1], Record: "r", Fields: fields[:2]})
	want := s.Dump()
	holdSetVar(t, s, 1, num(1), api.OK)
	holdSetVar(t, s, 2, num(1), api.OK)
	holdSetElem(t, s, 0, "a", num(1), api.OK)
	holdSetElem(t, s, 1, "c", num(1), api.OK)
	holdSetField(t, s, 1, num(2), api.OK)
	holdSetField(t, s, 3, num(2), api.OK)
	if fmt.Sprint(vars, lists, elements, fields) != fmt.Sprint([]api.Value{str(usual), kind(7), str("spare"), str("spare")}, [][]api.Item{{{Key: "a", Val: kind(9)}, {Key: "b", Val: str("b")}}, items("spare")}, []api.Item{{Key: "a", Val: kind(9)}, {Key: "b", Val: str("b")}, {Key: "spare"}}, []api.Value{num(1), str("f"), str("spare")}) {
		t.Errorf("the lists became %v, %v, %v, %v", vars, lists, elements, fields)
	}
	s = load(t, api.State{Vars: vars[:2], Arrays: lists[:1], Record: "r", Fields: fields[:2]})
	clear(vars)
	clear(elements)
	clear(fields)
	clear(lists)
	holdDump(t, s, want)
}

// P22.8: a list that is answered belongs to the caller.
func TestAnsweredLists(t *testing.T) {
	s := load(t, api.State{Vars: []api.Value{str("v")}, Arrays: [][]api.Item{items("a", "b"), items("c")}, Record: "r", Fields: []api.Value{str("f")}})
	want := s.Dump()
	got := s.Dump()
	keys, _ := s.Keys(0)
	for _, array := range got.Arrays {
		clear(array[:cap(array)])
	}
	clear(got.Vars[:cap(got.Vars)])
	clear(got.Arrays[:cap(got.Arrays)])
	clear(got.Fields[:cap(got.Fields)])
	clear(keys[:cap(keys)])
	holdDump(t, s, want)
	holdKeys(t, s, 0, "a", "b")
	kept := s.Dump()
	keys, _ = s.Keys(0)
	holdSetVar(t, s, 0, str("w"), api.OK)
	holdWipe(t, s, 0, api.OK)
	holdSetElem(t, s, 1, "c", str("w"), api.OK)
	holdSetField(t, s, 1, str("w"), api.OK)
	if !same(kept, want) || !slices.Equal(keys, []string{"a", "b"}) {
		t.Errorf("answers became %v, %q", kept, keys)
	}
}

// P22.8: two stores have nothing in common, though they were made of the same things.
func TestTwoStores(t *testing.T) {
	st := load(t, api.State{Vars: []api.Value{str(usual)}, Arrays: [][]api.Item{items("a")}, Record: "r s", Fields: plain(str("r"), str("s"))}).Dump()
	list := []*store.Store{load(t, st), load(t, st), load(t, st)}
	for i, s := range list {
		holdSetVar(t, s, 0, num(float64(i)), api.OK)
		holdSetVar(t, s, api.VarOfs, str("-"), api.OK)
		holdSetElem(t, s, 0, "b", num(float64(i)), api.OK)
		holdDelete(t, s, 0, "a", api.OK)
		holdSetField(t, s, 1, num(float64(i)), api.OK)
		for _, other := range list[i+1:] {
			holdDump(t, other, st)
		}
	}
	for i, s := range list {
		holdVar(t, s, 0, value.Plain(num(float64(i))), api.OK)
		holdElem(t, s, 0, "b", value.Plain(num(float64(i))), api.OK)
		holdField(t, s, 0, value.Str(fmt.Sprintf("%d-s", i)), api.OK)
	}
	a, b := store.New(), store.New()
	holdSetVar(t, a, 9, num(1), api.OK)
	holdElem(t, a, 5, "k", api.Value{}, api.OK)
	holdSetField(t, a, 0, str("x"), api.OK)
	holdDump(t, b, store.New().Dump())
}

// P2: the same calls answer the same, whatever was called ahead of them or beside them; a store that is only asked may be asked by many.
func TestNothingIsKept(t *testing.T) {
	shared := load(t, api.State{Vars: []api.Value{str("%.3f"), num(0.5)}, Arrays: [][]api.Item{items("a", "b", "c", "d", "e", "f", "g", "h", "i", "j")}, Record: "1 b", Fields: plain(num(0.5), str("x"))})
	want := answers(shared)
	var group sync.WaitGroup
	for range 8 {
		group.Go(func() {
			for range 100 {
				if got := answers(shared); got != want {
					t.Errorf("%s, then %s", want, got)
				}
			}
		})
	}
	group.Wait()
}

// answers: what some calls answer.
func answers(shared *store.Store) string {
	list := []any{shared.Dump(), textsOf(shared)}
	for _, s := range []string{"", "a b", "1 , 2"} {
		of := store.New()
		of.SetElem(0, s, str(s))
		of.Elem(0, "x")
		keys, _ := of.Keys(0)
		list = append(list, of.SetField(0, str(s)), of.SetField(3, num(0.5)), of.SetVar(8, str(s)), of.Dump(), keys)
	}
	return fmt.Sprint(list...)
}
