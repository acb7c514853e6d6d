package store_test

import (
	"fmt"
	"maps"
	"math"
	"reflect"
	"slices"
	"strings"
	"testing"

	"abacus/api"
	"abacus/chars"
	"abacus/store"
	"abacus/value"
)

const (
	maxInt = 1<<63 - 1
	minInt = -1 << 63
	usual  = "%.6g"
	most   = 1 << 24 // bytes of a text that is made
	last   = 32768   // the greatest number of a field
	vars   = 256     // how many variables there are
	arrays = 64      // how many arrays there are
)

// random: a number from a fixed row (splitmix64), so that every run tests the same.
func random(seed *uint64) uint64 {
	*seed += 0x9e3779b97f4a7c15
	z := *seed
	z = (z ^ z>>30) * 0xbf58476d1ce4e5b9
	z = (z ^ z>>27) * 0x94d049bb133111eb
	return z ^ z>>31
}

// between: a number from low to high.
func between(seed *uint64, low int, high int) int {
	return low + int(random(seed)%uint64(high-low+1))
}

// pick: one of these.
func pick[T any](seed *uint64, list ...T) T { return list[between(seed, 0, len(list)-1)] }

// num: a number as a raw value, with a text that doesn't count.
func num(x float64) api.Value {
	return api.Value{Kind: api.KindNum, Num: math.Float64bits(x), Str: "unseen"}
}

// str: a string as a raw value, with a number that doesn't count.
func str(s string) api.Value { return api.Value{Kind: api.KindStr, Num: api.NaN, Str: s} }

// strnum: a strnum as a raw value, whose number and text need not belong together.
func strnum(x float64, s string) api.Value {
	return api.Value{Kind: api.KindStrnum, Num: math.Float64bits(x), Str: s}
}

// kind: no value, by this Kind, with a number and a text that don't count.
func kind(k int) api.Value { return api.Value{Kind: k, Num: api.One, Str: "unseen"} }

// plain: these values in plain form.
func plain(list ...api.Value) []api.Value {
	out := make([]api.Value, len(list))
	for i, v := range list {
		out[i] = value.Plain(v)
	}
	return out
}

// row: so many bytes x.
func row(count int) string { return strings.Repeat("x", count) }

// brief: enough of a thing to know it by.
func brief(x any) string {
	text := fmt.Sprint(x)
	if len(text) > 300 {
		return text[:300] + ".."
	}
	return text
}

// draw: a text of up to so many bytes, of few letters.
func draw(seed *uint64, most int) string {
	letters := pick(seed, "ab", "a ", "a, ", "12.e- ", "\x00\xff", "-,\n")
	text := make([]byte, between(seed, 0, most))
	for i := range text {
		text[i] = letters[between(seed, 0, len(letters)-1)]
	}
	return string(text)
}

// drawValue: a raw value of any kind.
func drawValue(seed *uint64) api.Value {
	x := float64(between(seed, -20, 60)) / pick(seed, 1.0, 1, 4, 10)
	if between(seed, 0, 15) == 0 {
		x = pick(seed, math.NaN(), math.Inf(1), math.Inf(-1), math.Copysign(0, -1), 1e300, 1<<63, 1e18, 5e-324, 32769)
	}
	v := api.Value{Kind: between(seed, 0, 4), Num: math.Float64bits(x), Str: draw(seed, 8)}
	if v.Kind == 4 {
		v.Kind = pick(seed, 4, 5, -1, 257, 1<<32+1, maxInt, minInt, minInt+2)
	}
	return v
}

// model is a store as the chapter tells it.
type model struct {
	vars   [vars]api.Value
	arrays [arrays]map[string]api.Value
	text   string
	fields []api.Value
}

// begun: the model of a store as a run begins.
func begun() *model {
	m := &model{}
	copy(m.vars[:], plain(str(usual), str(usual), str("\x1c"), str(" "), str(" "), str("\n"), str("\n"), num(0)))
	for a := range m.arrays {
		m.arrays[a] = map[string]api.Value{}
	}
	return m
}

// value: variable i.
func (m *model) value(i int) api.Value {
	if i == api.VarNf {
		return value.Plain(num(float64(len(m.fields))))
	}
	return m.vars[i]
}

// setting: the text of variable i.
func (m *model) setting(i int) (string, api.Errno) {
	convfmt, _ := value.ToStr(m.vars[api.VarConvfmt], usual)
	if i == api.VarConvfmt {
		return convfmt, api.OK
	}
	return value.ToStr(m.value(i), convfmt)
}

// setVar: variable i becomes v.
func (m *model) setVar(i int, v api.Value) api.Errno {
	if i < 0 || i >= vars {
		return api.ErrVar
	}
	if i != api.VarNf {
		m.vars[i] = value.Plain(v)
		return api.OK
	}
	n := math.Trunc(math.Float64frombits(value.ToNum(v)))
	if !(n >= 0 && n <= last) {
		return api.ErrField
	}
	list := make([]api.Value, int(n))
	copy(list, m.fields)
	return m.join(list)
}

// setField: $i becomes v.
func (m *model) setField(i int, v api.Value) api.Errno {
	if i < 0 || i > last {
		return api.ErrField
	}
	if i == 0 {
		return m.read(v)
	}
	list := slices.Clone(m.fields)
	for len(list) < i {
		list = append(list, api.Value{})
	}
	list[i-1] = value.Plain(v)
	return m.join(list)
}

// read: $0 becomes v.
func (m *model) read(v api.Value) api.Errno {
	fs, e := m.setting(api.VarFs)
	if e != api.OK {
		return e
	}
	convfmt, _ := m.setting(api.VarConvfmt)
	text, e := value.ToStr(v, convfmt)
	if e != api.OK {
		return e
	}
	m.text, m.fields = text, nil
	for _, part := range chars.Split(text, fs) {
		m.fields = append(m.fields, value.Input(part))
	}
	return api.OK
}

// join: the fields become these, and $0 their texts.
func (m *model) join(list []api.Value) api.Errno {
	ofs, e := m.setting(api.VarOfs)
	if e != api.OK {
		return e
	}
	convfmt, _ := m.setting(api.VarConvfmt)
	texts := make([]string, len(list))
	for i, f := range list {
		if texts[i], e = value.ToStr(f, convfmt); e != api.OK {
			return e
		}
	}
	m.text, m.fields = strings.Join(texts, ofs), list
	return api.OK
}

// state: the model as plain data.
func (m *model) state() api.State {
	var st api.State
	for i := range vars {
		if v := m.value(i); v.Kind != api.KindNone {
			st.Vars = append(st.Vars, make([]api.Value, i+1-len(st.Vars))...)
			st.Vars[i] = v
		}
	}
	for a, array := range m.arrays {
		if len(array) > 0 {
			st.Arrays = append(st.Arrays, make([][]api.Item, a+1-len(st.Arrays))...)
		}
		for _, key := range slices.Sorted(maps.Keys(array)) {
			st.Arrays[a] = append(st.Arrays[a], api.Item{Key: key, Val: array[key]})
		}
	}
	st.Record, st.Fields = m.text, m.fields
	return st
}

// same: whether two states hold the same; a list that holds nothing may be nil.
func same(a api.State, b api.State) bool {
	return slices.Equal(a.Vars, b.Vars) && slices.EqualFunc(a.Arrays, b.Arrays, slices.Equal[[]api.Item]) && a.Record == b.Record && slices.Equal(a.Fields, b.Fields)
}

// load: the store of this state, which must be one.
func load(t *testing.T, st api.State) *store.Store {
	t.Helper()
	s, e := store.Load(st)
	if s == nil || e != api.OK {
		t.Fatalf("Load(%s): %v, error %d", brief(st), s != nil, e)
	}
	return s
}

// holdDump: Dump must be this, and so must that of a store loaded from it.
func holdDump(t *testing.T, s *store.Store, want api.State) {
	t.Helper()
	got := s.Dump()
	if !same(got, want) {
		t.Fatalf("Dump() = %s, want %s", brief(got), brief(want))
	}
	if again := load(t, got).Dump(); !reflect.DeepEqual(again, got) {
		t.Fatalf("behind Load, Dump() = %s, want %s", brief(again), brief(got))
	}
}

// holdVar: Var's answer must be this value and this error.
func holdVar(t *testing.T, s *store.Store, i int, want api.Value, e api.Errno) {
	t.Helper()
	if got, fault := s.Var(i); got != want || fault != e {
		t.Fatalf("Var(%d) = %s, error %d; want %s, error %d", i, brief(got), fault, brief(want), e)
	}
}

// holdSetVar: SetVar must answer this error.
func holdSetVar(t *testing.T, s *store.Store, i int, v api.Value, e api.Errno) {
	t.Helper()
	if got := s.SetVar(i, v); got != e {
		t.Fatalf("SetVar(%d, %s): error %d, want %d", i, brief(v), got, e)
	}
}

// holdSetting: Setting's answer must be this text and this error.
func holdSetting(t *testing.T, s *store.Store, i int, want string, e api.Errno) {
	t.Helper()
	if got, fault := s.Setting(i); got != want || fault != e {
		t.Fatalf("Setting(%d) = %s, error %d; want %s, error %d", i, brief(got), fault, brief(want), e)
	}
}

// holdElem: Elem's answer must be this value and this error.
func holdElem(t *testing.T, s *store.Store, a int, key string, want api.Value, e api.Errno) {
	t.Helper()
	if got, fault := s.Elem(a, key); got != want || fault != e {
		t.Fatalf("Elem(%d, %s) = %s, error %d; want %s, error %d", a, brief(key), brief(got), fault, brief(want), e)
	}
}

// holdSetElem: SetElem must answer this error.
func holdSetElem(t *testing.T, s *store.Store, a int, key string, v api.Value, e api.Errno) {
	t.Helper()
	if got := s.SetElem(a, key, v); got != e {
		t.Fatalf("SetElem(%d, %s, %s): error %d, want %d", a, brief(key), brief(v), got, e)
	}
}

// holdHas: Has' answer must be this and this error.
func holdHas(t *testing.T, s *store.Store, a int, key string, want bool, e api.Errno) {
	t.Helper()
	if got, fault := s.Has(a, key); got != want || fault != e {
		t.Fatalf("Has(%d, %s) = %v, error %d; want %v, error %d", a, brief(key), got, fault, want, e)
	}
}

// holdDelete: Delete must answer this error.
func holdDelete(t *testing.T, s *store.Store, a int, key string, e api.Errno) {
	t.Helper()
	if got := s.Delete(a, key); got != e {
		t.Fatalf("Delete(%d, %s): error %d, want %d", a, brief(key), got, e)
	}
}

// holdWipe: Wipe must answer this error.
func holdWipe(t *testing.T, s *store.Store, a int, e api.Errno) {
	t.Helper()
	if got := s.Wipe(a); got != e {
		t.Fatalf("Wipe(%d): error %d, want %d", a, got, e)
	}
}

// holdKeys: Keys' answer must be these, without an error.
func holdKeys(t *testing.T, s *store.Store, a int, want ...string) {
	t.Helper()
	if got, e := s.Keys(a); !slices.Equal(got, want) || e != api.OK {
		t.Fatalf("Keys(%d) = %s, error %d; want %s", a, brief(got), e, brief(want))
	}
}

// holdField: Field's answer must be this value and this error.
func holdField(t *testing.T, s *store.Store, i int, want api.Value, e api.Errno) {
	t.Helper()
	if got, fault := s.Field(i); got != want || fault != e {
		t.Fatalf("Field(%d) = %s, error %d; want %s, error %d", i, brief(got), fault, brief(want), e)
	}
}

// holdSetField: SetField must answer this error.
func holdSetField(t *testing.T, s *store.Store, i int, v api.Value, e api.Errno) {
	t.Helper()
	if got := s.SetField(i, v); got != e {
		t.Fatalf("SetField(%d, %s): error %d, want %d", i, brief(v), got, e)
	}
}

// holdRecord: the record must have this text and these fields.
func holdRecord(t *testing.T, s *store.Store, text string, fields ...api.Value) {
	t.Helper()
	holdField(t, s, 0, value.Input(text), api.OK)
	holdVar(t, s, api.VarNf, value.Plain(num(float64(len(fields)))), api.OK)
	for i, f := range fields {
		holdField(t, s, i+1, f, api.OK)
	}
	if d := s.Dump(); d.Record != text || !slices.Equal(d.Fields, fields) {
		t.Fatalf("the record is %s, %s; want %s, %s", brief(d.Record), brief(d.Fields), brief(text), brief(fields))
	}
}
