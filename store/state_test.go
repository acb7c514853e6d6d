package store_test

import (
	"testing"

	"abacus/api"
	"abacus/store"
	"abacus/value"
)

// refused: Load must refuse this state.
func refused(t *testing.T, st api.State) {
	t.Helper()
	if s, e := store.Load(st); s != nil || e != api.ErrState {
		t.Errorf("Load(%s): %v, error %d", brief(st), s != nil, e)
	}
}

// items: elements at these keys.
func items(keys ...string) []api.Item {
	var list []api.Item
	for _, key := range keys {
		list = append(list, api.Item{Key: key, Val: str("of " + key)})
	}
	return list
}

// P22.2: states that are none: lists that are too long, keys that don't come one behind the other.
func TestNoStates(t *testing.T) {
	for _, n := range []int{1, 2, 1000} {
		refused(t, api.State{Vars: make([]api.Value, vars+n)})
		refused(t, api.State{Arrays: make([][]api.Item, arrays+n)})
		refused(t, api.State{Fields: make([]api.Value, last+n)})
	}
	for _, keys := range [][]string{{"b", "a"}, {"a", "a"}, {"", ""}, {"a", ""}, {"a", "b", "c", "c"}, {"a", "c", "b", "d"}, {"ab", "a"}, {"9", "10"}, {"\xff", "a"}, {"\x80", "a"}, {"a", "B"}, {"a\x00", "a"}} {
		refused(t, api.State{Arrays: [][]api.Item{items(keys...)}})
		refused(t, api.State{Arrays: [][]api.Item{items("a", "b"), nil, items(keys...), nil}})
		list := make([][]api.Item, arrays)
		list[arrays-1] = items(keys...)
		refused(t, api.State{Arrays: list})
	}
}

// P22.2: the greatest state is one, and so is the least, whose store has not even a CONVFMT.
func TestStates(t *testing.T) {
	st := api.State{Vars: make([]api.Value, vars), Arrays: make([][]api.Item, arrays), Record: "r", Fields: make([]api.Value, last)}
	st.Vars[vars-1] = value.Num(api.One)
	st.Arrays[arrays-1] = []api.Item{{Key: ""}, {Key: "\x00"}, {Key: "a"}}
	s := load(t, st)
	st.Vars[api.VarNf] = value.Plain(num(last))
	holdDump(t, s, st)
	s = load(t, api.State{})
	least := api.State{Vars: make([]api.Value, api.VarFirst)}
	least.Vars[api.VarNf] = value.Num(0)
	holdDump(t, s, least)
	for i := range api.VarNf {
		holdVar(t, s, i, api.Value{}, api.OK)
		holdSetting(t, s, i, "", api.OK)
	}
	holdSetField(t, s, 0, str("ab"), api.OK)
	holdRecord(t, s, "ab", plain(str("a"), str("b"))...)
	holdSetVar(t, s, api.VarNf, num(3), api.OK)
	holdRecord(t, s, "ab", plain(str("a"), str("b"), kind(0))...)
	holdSetField(t, s, 1, num(0.5), api.ErrConv)
}

// P22.2: the chapter's example: a record and fields that don't fit one another stay as they are, till one is set.
func TestLoadedRecord(t *testing.T) {
	s := load(t, api.State{Record: "p q", Fields: []api.Value{num(7)}})
	holdRecord(t, s, "p q", value.Plain(num(7)))
	holdVar(t, s, api.VarConvfmt, api.Value{}, api.OK)
	holdSetting(t, s, api.VarConvfmt, "", api.OK)
	holdSetField(t, s, 2, str("z"), api.OK)
	holdRecord(t, s, "7z", plain(num(7), str("z"))...)
	s = load(t, api.State{Record: "p q"})
	holdRecord(t, s, "p q")
	s = load(t, api.State{Record: row(most + 1), Fields: []api.Value{str("a"), kind(7), strnum(7, "z"), kind(-1)}})
	holdRecord(t, s, row(most+1), plain(str("a"), kind(0), strnum(7, "z"), kind(0))...)
}

// P22.2: each value is made plain, and what Vars says of NF isn't looked at.
func TestLoadedValues(t *testing.T) {
	raw := []api.Value{str("%.2f"), kind(4), num(1), strnum(2, "x"), kind(-1), kind(minInt), num(3), kind(maxInt), str("5"), str("y"), kind(9)}
	st := api.State{Vars: raw, Arrays: [][]api.Item{{{Key: "a", Val: num(1)}, {Key: "b", Val: kind(9)}, {Key: "c", Val: str("s")}}, nil, {}}, Fields: []api.Value{str("f")}}
	s := load(t, st)
	want := plain(raw[:10]...)
	want[api.VarNf] = value.Num(api.One)
	holdDump(t, s, api.State{Vars: want, Arrays: [][]api.Item{{{Key: "a", Val: value.Num(api.One)}, {Key: "b"}, {Key: "c", Val: value.Str("s")}}}, Fields: plain(str("f"))})
	holdHas(t, s, 0, "b", true, api.OK)
	for _, v := range []api.Value{num(-1), num(1e300), str("x"), kind(0), num(32769)} {
		holdRecord(t, load(t, api.State{Vars: append(make([]api.Value, api.VarNf), v)}), "")
	}
}

// P22.3: Vars and Arrays go up to the last one that holds something, however it came and went.
func TestDumpedLists(t *testing.T) {
	s := store.New()
	st := s.Dump()
	for _, i := range []int{9, 20, 255} {
		holdSetVar(t, s, i, str(""), api.OK)
		long := append(st.Vars, make([]api.Value, i+1-len(st.Vars))...)
		long[i] = value.Str("")
		holdDump(t, s, api.State{Vars: long})
		holdSetVar(t, s, i, kind(5), api.OK)
		holdDump(t, s, st)
	}
	for _, a := range []int{0, 1, 63} {
		holdElem(t, s, a, "k", api.Value{}, api.OK)
		list := make([][]api.Item, a+1)
		list[a] = []api.Item{{Key: "k"}}
		holdDump(t, s, api.State{Vars: st.Vars, Arrays: list})
		holdHas(t, s, a, "other", false, api.OK)
		holdDelete(t, s, a, "k", api.OK)
		holdDump(t, s, st)
	}
	for i := range api.VarNf {
		holdSetVar(t, s, i, kind(0), api.OK)
	}
	st.Vars = append(make([]api.Value, api.VarNf), value.Num(0))
	holdDump(t, s, st)
}

// P22.3: a nil store does nothing, and answers ErrState ahead of all other errors.
func TestNilStore(t *testing.T) {
	var s *store.Store
	if !same(s.Dump(), api.State{}) {
		t.Errorf("Dump() = %v", s.Dump())
	}
	for _, i := range []int{0, 1, api.VarNf, -1, arrays, vars, last, last + 1, maxInt, minInt} {
		holdVar(t, s, i, api.Value{}, api.ErrState)
		holdSetVar(t, s, i, num(-1), api.ErrState)
		holdSetting(t, s, i, "", api.ErrState)
		holdElem(t, s, i, "k", api.Value{}, api.ErrState)
		holdSetElem(t, s, i, "k", num(1), api.ErrState)
		holdHas(t, s, i, "k", false, api.ErrState)
		holdDelete(t, s, i, "k", api.ErrState)
		holdWipe(t, s, i, api.ErrState)
		holdField(t, s, i, api.Value{}, api.ErrState)
		holdSetField(t, s, i, num(0.5), api.ErrState)
		if keys, e := s.Keys(i); len(keys) != 0 || e != api.ErrState {
			t.Errorf("Keys(%d) = %q, error %d", i, keys, e)
		}
	}
}

// step: one drawn call of the store and of the model, whose answers must be alike; the error.
func step(t *testing.T, seed *uint64, s *store.Store, m *model) api.Errno {
	t.Helper()
	v, key := drawValue(seed), pick(seed, "", "a", "b", "ab", draw(seed, 2))
	i := pick(seed, between(seed, 0, 9), api.VarConvfmt, between(seed, 3, 4), api.VarNf, between(seed, 0, 255), pick(seed, -1, 256, maxInt, minInt))
	a := pick(seed, 0, 1, 0, 1, between(seed, 0, 63), pick(seed, -1, 64, maxInt, minInt))
	f := pick(seed, 0, between(seed, 0, 4), between(seed, 1, 9), between(seed, -2, 40), last+between(seed, 1, 9))
	var e api.Errno
	switch call := between(seed, 0, 13); call {
	case 0, 1, 2:
		if i == api.VarConvfmt {
			v = pick(seed, str("%.6g"), str("%.3f"), str("<%e>"), str("%d"), kind(0), v)
		}
		e = m.setVar(i, v)
		holdSetVar(t, s, i, v, e)
	case 3, 4, 5:
		e = m.setField(f, v)
		holdSetField(t, s, f, v, e)
	case 6:
		want := ""
		if e = api.ErrVar; i >= 0 && i < vars {
			want, e = m.setting(i)
		}
		holdSetting(t, s, i, want, e)
	default:
		if a < 0 || a >= arrays {
			holdElem(t, s, a, key, api.Value{}, api.ErrArray)
			holdSetElem(t, s, a, key, v, api.ErrArray)
			return api.ErrArray
		}
		elementStep(t, call, s, m, a, key, v)
	}
	return e
}

// elementStep: one call of an array's elements.
func elementStep(t *testing.T, call int, s *store.Store, m *model, a int, key string, v api.Value) {
	t.Helper()
	_, found := m.arrays[a][key]
	switch call {
	case 7, 8:
		holdElem(t, s, a, key, m.arrays[a][key], api.OK)
		m.arrays[a][key] = m.arrays[a][key]
	case 9, 10:
		holdSetElem(t, s, a, key, v, api.OK)
		m.arrays[a][key] = value.Plain(v)
	case 11:
		holdHas(t, s, a, key, found, api.OK)
	case 12:
		holdDelete(t, s, a, key, api.OK)
		delete(m.arrays[a], key)
	default:
		holdWipe(t, s, a, api.OK)
		clear(m.arrays[a])
	}
}

// P22.3 to P22.8: stores in every order of calls are what the model is, behind errors and behind Load of their Dump too.
func TestDrawnCalls(t *testing.T) {
	seed := uint64(221)
	met := map[api.Errno]int{}
	for range 2500 {
		s, m := store.New(), begun()
		for range between(&seed, 1, 120) {
			met[step(t, &seed, s, m)]++
			if between(&seed, 0, 4) == 0 {
				holdDump(t, s, m.state())
				s = load(t, s.Dump())
			}
		}
		holdDump(t, s, m.state())
		holdRecord(t, s, m.text, m.fields...)
	}
	for _, e := range []api.Errno{api.OK, api.ErrVar, api.ErrArray, api.ErrField, api.ErrConv} {
		if met[e] < 500 {
			t.Errorf("error %d was met only %d times", e, met[e])
		}
	}
}
