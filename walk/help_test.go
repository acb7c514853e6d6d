package walk_test

import (
	"fmt"
	"math"
	"reflect"
	"slices"
	"strings"
	"testing"

	"abacus/api"
	"abacus/store"
	"abacus/token"
	"abacus/tree"
	"abacus/walk"
)

const (
	most = 1 << 24 // bytes of a text that is made
	last = 32768   // the greatest number of a field
)

// The variables and arrays that scripts of these tests name.
const (
	x = 9 + iota
	y
	z
)

var known = api.Names{Vars: []string{"x", "y", "z"}, Arrays: []string{"a", "b"}}

// random: a number from a fixed row (splitmix64), so that every run tests the same.
func random(seed *uint64) uint64 {
	*seed += 0x9e3779b97f4a7c15
	z := *seed
	z = (z ^ z>>30) * 0xbf58476d1ce4e5b9
	z = (z ^ z>>27) * 0x94d049bb133111eb
	return z ^ z>>31
}

// between: a number from low to high.
func between(seed *uint64, low int, high int) int {
	return low + int(random(seed)%uint64(high-low+1))
}

// pick: one of these.
func pick[T any](seed *uint64, list ...T) T { return list[between(seed, 0, len(list)-1)] }

// bits: a float's pattern; of every NaN the NaN.
func bits(x float64) uint64 {
	if x != x {
		return api.NaN
	}
	return math.Float64bits(x)
}

var (
	none   = api.Value{}
	minus0 = pattern(api.Sign)
)

func num(x float64) api.Value    { return pattern(bits(x)) }
func pattern(d uint64) api.Value { return api.Value{Kind: api.KindNum, Num: d} }
func str(s string) api.Value     { return api.Value{Kind: api.KindStr, Str: s} }

// strnum: a strnum whose number and text need not belong together.
func strnum(x float64, s string) api.Value {
	return api.Value{Kind: api.KindStrnum, Num: bits(x), Str: s}
}

// row: so many bytes x.
func row(count int) string { return strings.Repeat("x", count) }

// brief: enough of a thing to know it by.
func brief(x any) string {
	text := fmt.Sprintf("%+v", x)
	if len(text) > 1500 {
		return text[:1200] + ".." + text[len(text)-280:]
	}
	return text
}

// read: the tree of an expression, in which x, y, z are the variables 9, 10, 11 and a, b the arrays 0, 1.
func read(t *testing.T, text string) api.Tree {
	t.Helper()
	toks, _, e := token.Lex(text)
	if e != api.OK {
		t.Fatalf("Lex(%s): %d", text, e)
	}
	made, _, at, e := tree.ParseAt(toks, 0, known)
	if e != api.OK || toks[at].Kind != api.TokEnd {
		t.Fatalf("ParseAt(%s): %d at %d", text, e, at)
	}
	return made
}

// over: kids ahead of the node that they belong to, whose N is set.
func over(n api.Node, kids ...[]api.Node) []api.Node {
	n.N = len(kids)
	return append(slices.Concat(kids...), n)
}

// leaf: a node without kids.
func leaf(n api.Node) []api.Node { return []api.Node{n} }

func numNode(x float64) []api.Node { return leaf(api.Node{Kind: api.NodeNum, Num: bits(x)}) }
func strNode(s string) []api.Node  { return leaf(api.Node{Kind: api.NodeStr, Str: s}) }
func varNode(i int) []api.Node     { return leaf(api.Node{Kind: api.NodeVar, Ref: i}) }

// let: an assignment to a variable.
func let(i int, right []api.Node) []api.Node {
	return over(api.Node{Kind: api.NodeAssign}, varNode(i), right)
}

// begun: a new store whose record was set to "10 abc".
func begun() *store.Store {
	s := store.New()
	s.SetField(0, str("10 abc"))
	return s
}

// copyOf: a store that holds the same.
func copyOf(t *testing.T, s *store.Store) *store.Store {
	t.Helper()
	again, e := store.Load(s.Dump())
	if e != api.OK {
		t.Fatalf("Load(%s): %d", brief(s.Dump()), e)
	}
	return again
}

// change: what a test does to a store by the store's own calls.
type change func(*store.Store)

// made: a store that began and was changed.
func made(changes ...change) *store.Store {
	s := begun()
	for _, c := range changes {
		if c != nil {
			c(s)
		}
	}
	return s
}

// set: variable i becomes v.
func set(i int, v api.Value) change { return func(s *store.Store) { s.SetVar(i, v) } }

// elem: the element of array a at key becomes v.
func elem(a int, key string, v api.Value) change {
	return func(s *store.Store) { s.SetElem(a, key, v) }
}

// field: $i becomes v.
func field(i int, v api.Value) change { return func(s *store.Store) { s.SetField(i, v) } }

// all: these changes, one behind the other.
func all(changes ...change) change {
	return func(s *store.Store) {
		for _, c := range changes {
			c(s)
		}
	}
}

// same: whether two states hold the same; a list that holds nothing may be nil.
func same(a api.State, b api.State) bool {
	return slices.Equal(a.Vars, b.Vars) && slices.EqualFunc(a.Arrays, b.Arrays, slices.Equal[[]api.Item]) && a.Record == b.Record && slices.Equal(a.Fields, b.Fields)
}

// hold: over a store, Eval must answer this value and this error and leave the store as that of after; and EvalState over its state must answer the same and that state. Nothing of the tree and the state may change.
func hold(t *testing.T, what any, e api.Tree, s *store.Store, want api.Value, fault api.Errno, after *store.Store) {
	t.Helper()
	st, behind := s.Dump(), after.Dump()
	nodes, kept := slices.Clone(e.Nodes), s.Dump()
	told := behind
	if fault == api.ErrTree || fault == api.ErrNodes || fault == api.ErrDepth {
		told = api.State{}
	}
	v, got, err := walk.EvalState(e, st)
	if v != want || err != fault || !same(got, told) {
		t.Fatalf("EvalState of %s: %s, error %d, want %s, %d; the state is %s, want %s", brief(what), brief(v), err, brief(want), fault, brief(got), brief(told))
	}
	if !reflect.DeepEqual(st, kept) {
		t.Fatalf("EvalState of %s: the state that was given became %s", brief(what), brief(st))
	}
	v, err = walk.Eval(e, s)
	if v != want || err != fault || !same(s.Dump(), behind) {
		t.Fatalf("Eval of %s: %s, error %d, want %s, %d; the store holds %s, want %s", brief(what), brief(v), err, brief(want), fault, brief(s.Dump()), brief(behind))
	}
	if !slices.Equal(nodes, e.Nodes) {
		t.Fatalf("Eval of %s: the tree became %s", brief(what), brief(e))
	}
}

// line of a table: an expression over a store that began and was changed by ahead; its value, its error, and how the store is changed.
type line struct {
	text  string
	ahead change
	v     api.Value
	e     api.Errno
	after change
}

// holdLines: every line must hold.
func holdLines(t *testing.T, lines []line) {
	t.Helper()
	for _, l := range lines {
		hold(t, l.text, read(t, l.text), made(l.ahead), l.v, l.e, made(l.ahead, l.after))
	}
}
