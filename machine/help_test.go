package machine_test

import (
	"fmt"
	"math"
	"reflect"
	"slices"
	"strconv"
	"strings"
	"testing"

	"abacus/api"
	"abacus/machine"
	"abacus/store"
)

const (
	most = 1 << 24 // bytes of a text that is made
	last = 32768   // the greatest number of a field
)

// The variables that these tests name.
const (
	x = 9 + iota
	y
	z
)

// random: a number from a fixed row (splitmix64), so that every run tests the same.
func random(seed *uint64) uint64 {
	*seed += 0x9e3779b97f4a7c15
	z := *seed
	z = (z ^ z>>30) * 0xbf58476d1ce4e5b9
	z = (z ^ z>>27) * 0x94d049bb133111eb
	return z ^ z>>31
}

// between: a number from low to high.
func between(seed *uint64, low int, high int) int {
	return low + int(random(seed)%uint64(high-low+1))
}

// pick: one of these.
func pick[T any](seed *uint64, list ...T) T { return list[between(seed, 0, len(list)-1)] }

// bits: a float's pattern; of every NaN the NaN.
func bits(f float64) uint64 {
	if f != f {
		return api.NaN
	}
	return math.Float64bits(f)
}

var (
	none   = api.Value{}
	minus0 = pattern(api.Sign)
)

func num(f float64) api.Value    { return pattern(bits(f)) }
func pattern(d uint64) api.Value { return api.Value{Kind: api.KindNum, Num: d} }
func str(s string) api.Value     { return api.Value{Kind: api.KindStr, Str: s} }

// strnum: a strnum whose number and text need not belong together.
func strnum(f float64, s string) api.Value {
	return api.Value{Kind: api.KindStrnum, Num: bits(f), Str: s}
}

// row: so many bytes x.
func row(count int) string { return strings.Repeat("x", count) }

// brief: enough of a thing to know it by.
func brief(what any) string {
	text := fmt.Sprintf("%+v", what)
	if len(text) > 1500 {
		return text[:1200] + ".." + text[len(text)-280:]
	}
	return text
}

// words: the instructions' names, by their numbers.
var words = strings.Fields("- num str var setvar opvar stepvar subvar field setfield opfield stepfield subfield key elem setelem opelem stepelem subelem in neg pos not truth bin cat rel jump ifnot if pop call split asort")

// fields: what a field of an instruction may be called in a script of these tests, beside its number.
var fields = map[string]int{
	"CONVFMT": api.VarConvfmt, "OFMT": api.VarOfmt, "SUBSEP": api.VarSubsep, "FS": api.VarFs, "OFS": api.VarOfs, "ORS": api.VarOrs, "RS": api.VarRs, "NR": api.VarNr, "NF": api.VarNf,
	"x": x, "y": y, "z": z, "a": 0, "b": 1,
	"+": api.OpAdd, "-": api.OpSub, "*": api.OpMul, "/": api.OpDiv, "%": api.OpMod, "^": api.OpPow,
	"<": api.LT, "<=": api.LE, "==": api.EQ, "!=": api.NE, ">": api.GT, ">=": api.GE,
	"++v": api.IncBefore, "--v": api.DecBefore, "v++": api.IncAfter, "v--": api.DecAfter,
	"length": api.FnLength, "substr": api.FnSubstr, "index": api.FnIndex, "sprintf": api.FnSprintf, "int": api.FnInt, "sqrt": api.FnSqrt, "toupper": api.FnToupper, "tolower": api.FnTolower, "sub": api.FnSub, "gsub": api.FnGsub, "sum": api.FnSum,
}

// read: the code of a text: its instructions with ";" between them, each a word and its fields; behind num the number itself, behind str the text itself, in quotes.
func read(t *testing.T, text string) api.Code {
	t.Helper()
	var c api.Code
	for _, part := range strings.Split(text, ";") {
		name, rest, _ := strings.Cut(strings.TrimSpace(part), " ")
		in := api.Instr{Word: slices.Index(words, name)}
		switch name {
		case "num":
			f, err := strconv.ParseFloat(rest, 64)
			if err != nil {
				t.Fatalf("%q: %v", text, err)
			}
			in.A, c.Nums = len(c.Nums), append(c.Nums, bits(f))
		case "str":
			s, err := strconv.Unquote(rest)
			if err != nil {
				t.Fatalf("%q: %v", text, err)
			}
			in.A, c.Strs = len(c.Strs), append(c.Strs, s)
		default:
			given := append(numbers(t, strings.Fields(rest)), 0, 0)
			in.A, in.B = given[0], given[1]
			if strings.HasSuffix(name, "field") && name != "setfield" && name != "field" {
				in.A, in.B = 0, given[0]
			}
		}
		c.Ops = append(c.Ops, in)
	}
	return c
}

// numbers: what fields are called, as numbers.
func numbers(t *testing.T, names []string) (list []int) {
	t.Helper()
	for _, name := range names {
		n, known := fields[name]
		if !known {
			var err error
			if n, err = strconv.Atoi(name); err != nil {
				t.Fatalf("%q is no field", name)
			}
		}
		list = append(list, n)
	}
	return list
}

// begun: a new store whose record was set to "10 abc".
func begun() *store.Store {
	s := store.New()
	s.SetField(0, str("10 abc"))
	return s
}

// copyOf: a store that holds the same.
func copyOf(t *testing.T, s *store.Store) *store.Store {
	t.Helper()
	again, e := store.Load(s.Dump())
	if e != api.OK {
		t.Fatalf("Load(%s): %d", brief(s.Dump()), e)
	}
	return again
}

// change: what a test does to a store by the store's own calls.
type change func(*store.Store)

// made: a store that began and was changed.
func made(changes ...change) *store.Store {
	s := begun()
	for _, c := range changes {
		if c != nil {
			c(s)
		}
	}
	return s
}

// set: variable i becomes v.
func set(i int, v api.Value) change { return func(s *store.Store) { s.SetVar(i, v) } }

// elem: the element of array a at key becomes v.
func elem(a int, key string, v api.Value) change {
	return func(s *store.Store) { s.SetElem(a, key, v) }
}

// field: $i becomes v.
func field(i int, v api.Value) change { return func(s *store.Store) { s.SetField(i, v) } }

// format: CONVFMT becomes a string.
func format(text string) change { return set(api.VarConvfmt, str(text)) }

// all: these changes, one behind the other.
func all(changes ...change) change {
	return func(s *store.Store) {
		for _, c := range changes {
			c(s)
		}
	}
}

// same: whether two states hold the same; a list that holds nothing may be nil.
func same(a api.State, b api.State) bool {
	return slices.Equal(a.Vars, b.Vars) && slices.EqualFunc(a.Arrays, b.Arrays, slices.Equal[[]api.Item]) && a.Record == b.Record && slices.Equal(a.Fields, b.Fields)
}

// told: what a run must answer.
type told struct {
	v     api.Value
	steps int
	e     api.Errno
}

// hold: over a store, Run must answer this and leave the store as that of after; and RunState over its state must answer the same and that state. Nothing of the code and the state may change.
func hold(t *testing.T, what any, c api.Code, s *store.Store, want told, after *store.Store) {
	t.Helper()
	st, behind, given := s.Dump(), after.Dump(), s.Dump()
	kept := api.Code{Ops: slices.Clone(c.Ops), Nums: slices.Clone(c.Nums), Strs: slices.Clone(c.Strs)}
	state := behind
	if want.e == api.ErrCode {
		state = api.State{}
	}
	v, got, steps, e := machine.RunState(c, st)
	if (told{v, steps, e}) != want || !same(got, state) {
		t.Fatalf("RunState of %s: %s, %d steps, error %d, want %s; the state is %s, want %s", brief(what), brief(v), steps, e, brief(want), brief(got), brief(state))
	}
	if !reflect.DeepEqual(st, given) {
		t.Fatalf("RunState of %s: the state that was given became %s", brief(what), brief(st))
	}
	v, steps, e = machine.Run(c, s)
	if (told{v, steps, e}) != want || !same(s.Dump(), behind) {
		t.Fatalf("Run of %s: %s, %d steps, error %d, want %s; the store holds %s, want %s", brief(what), brief(v), steps, e, brief(want), brief(s.Dump()), brief(behind))
	}
	if !slices.Equal(c.Ops, kept.Ops) || !slices.Equal(c.Nums, kept.Nums) || !slices.Equal(c.Strs, kept.Strs) {
		t.Fatalf("Run of %s: the code became %s", brief(what), brief(c))
	}
	if steps > len(c.Ops) {
		t.Fatalf("Run of %s: %d steps of %d instructions", brief(what), steps, len(c.Ops))
	}
}

// line of a table: a code without jumps over a store that began and was changed by ahead; its value, its error, and how the store is changed.
type line struct {
	text  string
	ahead change
	v     api.Value
	e     api.Errno
	after change
}

// holdLines: every line must hold, in as many steps as there are instructions.
func holdLines(t *testing.T, lines []line) {
	t.Helper()
	for _, l := range lines {
		c := read(t, l.text)
		want := told{l.v, len(c.Ops), l.e}
		if l.e != api.OK {
			want.steps = 0
		}
		hold(t, l.text, c, made(l.ahead), want, made(l.ahead, l.after))
	}
}
