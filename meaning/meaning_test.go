package meaning_test

import (
	"fmt"
	"strings"
	"testing"

	"abacus/api"
	"abacus/meaning"
	"abacus/store"
	"abacus/value"
)

// What the operations do over values and stores is held by the tests of package walk, which carries every one of them out. Here stands what no checked tree reaches.

// calls: every operation that asks a store, over array a and variable i.
func calls(a int, i int) map[string]func(*store.Store) (api.Value, api.Errno) {
	one := value.Num(api.One)
	row := []api.Value{one}
	target := map[string]meaning.Target{"a variable": meaning.Variable(i), "a field": meaning.Field{Number: one}, "an element": &meaning.Element{Array: a}}
	list := map[string]func(*store.Store) (api.Value, api.Errno){
		"In":    func(s *store.Store) (api.Value, api.Errno) { return meaning.In(s, a, row) },
		"Cat":   func(s *store.Store) (api.Value, api.Errno) { return meaning.Cat(s, one, one) },
		"Rel":   func(s *store.Store) (api.Value, api.Errno) { return meaning.Rel(s, api.LT, one, one) },
		"Split": func(s *store.Store) (api.Value, api.Errno) { return meaning.Split(s, a, one, one) },
		"Asort": func(s *store.Store) (api.Value, api.Errno) { return meaning.Asort(s, a) },
	}
	for _, function := range []int{api.FnLength, api.FnSubstr, api.FnIndex, api.FnSprintf, api.FnToupper, api.FnTolower} {
		list[fmt.Sprint("Call of ", function)] = func(s *store.Store) (api.Value, api.Errno) {
			return meaning.Call(s, function, []api.Value{one, one})
		}
	}
	for name, t := range target {
		list["Read of "+name] = t.Read
		list["Assign to "+name] = func(s *store.Store) (api.Value, api.Errno) { return meaning.Assign(s, t, one) }
		list["Update of "+name] = func(s *store.Store) (api.Value, api.Errno) { return meaning.Update(s, t, api.OpAdd, one) }
		list["Step of "+name] = func(s *store.Store) (api.Value, api.Errno) { return meaning.Step(s, t, api.IncAfter) }
		list["Replace in "+name] = func(s *store.Store) (api.Value, api.Errno) { return meaning.Replace(s, t, api.FnSub, "", "x") }
	}
	return list
}

// Without a store every operation that needs one is refused, and none panics.
func TestNoStore(t *testing.T) {
	for name, call := range calls(0, api.VarFirst) {
		if v, e := call(nil); v != (api.Value{}) || e != api.ErrState {
			t.Errorf("%s: %v, error %d", name, v, e)
		}
	}
	one := []api.Value{value.Num(api.One)}
	if text, e := meaning.Text(nil, one[0]); text != "" || e != api.ErrState {
		t.Errorf("Text: %q, error %d", text, e)
	}
	if texts, e := meaning.Texts(nil, one...); texts != nil || e != api.ErrState {
		t.Errorf("Texts: %q, error %d", texts, e)
	}
	if key, e := meaning.Key(nil, one); key != "" || e != api.ErrState {
		t.Errorf("Key: %q, error %d", key, e)
	}
	element := &meaning.Element{}
	if e := element.Aim(nil, one); e != api.ErrState {
		t.Errorf("Aim: error %d", e)
	}
}

// Numbers of arrays and variables that no store has are refused, and nothing is changed.
func TestWrongNumbers(t *testing.T) {
	for _, wrong := range []int{-1, api.MaxVars, 1 << 40} {
		for name, call := range calls(wrong, wrong) {
			want := api.ErrArray
			switch {
			case name == "Cat" || name == "Rel" || strings.HasPrefix(name, "Call") || strings.HasSuffix(name, "field"):
				continue
			case strings.HasSuffix(name, "variable"):
				want = api.ErrVar
			}
			s := store.New()
			if v, e := call(s); v != (api.Value{}) || e != want {
				t.Errorf("%s, number %d: %v, error %d, want %d", name, wrong, v, e, want)
			}
			if d := s.Dump(); len(d.Vars) != api.VarFirst || len(d.Arrays) != 0 || d.Record != "" {
				t.Errorf("%s, number %d: the store holds %v", name, wrong, d)
			}
		}
	}
}

// The element that has no key yet is the one at the empty key; a field of no value is $0.
func TestTargetsAsTheyBegin(t *testing.T) {
	s := store.New()
	if v, e := meaning.Assign(s, &meaning.Element{Array: 3}, value.Str("v")); v != value.Str("v") || e != api.OK {
		t.Errorf("Assign: %v, error %d", v, e)
	}
	if v, e := s.Elem(3, ""); v != value.Str("v") || e != api.OK {
		t.Errorf("the element is %v, error %d", v, e)
	}
	if _, e := meaning.Assign(s, meaning.Field{}, value.Str("p q")); e != api.OK {
		t.Errorf("Assign: error %d", e)
	}
	if v, e := s.Field(2); v != value.Str("q") || e != api.OK {
		t.Errorf("$2 is %v, error %d", v, e)
	}
}
