package lower_test

import (
	"fmt"
	"math"
	"slices"
	"strings"
	"testing"

	"abacus/api"
	"abacus/code"
	"abacus/lower"
	"abacus/machine"
	"abacus/store"
	"abacus/token"
	"abacus/tree"
	"abacus/walk"
)

const (
	most = 1 << 24 // bytes of a text that is made
	last = 32768   // the greatest number of a field
)

// The variables that expressions of these tests name.
const (
	x = 9 + iota
	y
	z
)

var known = api.Names{Vars: []string{"x", "y", "z"}, Arrays: []string{"a", "b"}}

// random: a number from a fixed row (splitmix64), so that every run tests the same.
func random(seed *uint64) uint64 {
	*seed += 0x9e3779b97f4a7c15
	z := *seed
	z = (z ^ z>>30) * 0xbf58476d1ce4e5b9
	z = (z ^ z>>27) * 0x94d049bb133111eb
	return z ^ z>>31
}

// between: a number from low to high.
func between(seed *uint64, low int, high int) int {
	return low + int(random(seed)%uint64(high-low+1))
}

// pick: one of these.
func pick[T any](seed *uint64, list ...T) T { return list[between(seed, 0, len(list)-1)] }

// bits: a float's pattern; of every NaN the NaN.
func bits(f float64) uint64 {
	if f != f {
		return api.NaN
	}
	return math.Float64bits(f)
}

var (
	none   = api.Value{}
	minus0 = pattern(api.Sign)
)

func num(f float64) api.Value    { return pattern(bits(f)) }
func pattern(d uint64) api.Value { return api.Value{Kind: api.KindNum, Num: d} }
func str(s string) api.Value     { return api.Value{Kind: api.KindStr, Str: s} }

// strnum: a strnum whose number and text need not belong together.
func strnum(f float64, s string) api.Value {
	return api.Value{Kind: api.KindStrnum, Num: bits(f), Str: s}
}

// row: so many bytes x.
func row(count int) string { return strings.Repeat("x", count) }

// brief: enough of a thing to know it by.
func brief(what any) string {
	text := fmt.Sprintf("%+v", what)
	if len(text) > 1500 {
		return text[:1200] + ".." + text[len(text)-280:]
	}
	return text
}

// read: the tree of an expression, in which x, y, z are the variables 9, 10, 11 and a, b the arrays 0, 1.
func read(t *testing.T, text string) api.Tree {
	t.Helper()
	toks, _, e := token.Lex(text)
	if e != api.OK {
		t.Fatalf("Lex(%s): %d", text, e)
	}
	made, _, at, e := tree.ParseAt(toks, 0, known)
	if e != api.OK || toks[at].Kind != api.TokEnd {
		t.Fatalf("ParseAt(%s): %d at %d", text, e, at)
	}
	return made
}

// over: kids ahead of the node that they belong to, whose N is set.
func over(n api.Node, kids ...[]api.Node) []api.Node {
	n.N = len(kids)
	return append(slices.Concat(kids...), n)
}

// leaf: a node without kids.
func leaf(n api.Node) []api.Node { return []api.Node{n} }

func patternNode(d uint64) []api.Node { return leaf(api.Node{Kind: api.NodeNum, Num: d}) }
func numNode(f float64) []api.Node    { return patternNode(bits(f)) }
func strNode(s string) []api.Node     { return leaf(api.Node{Kind: api.NodeStr, Str: s}) }
func varNode(i int) []api.Node        { return leaf(api.Node{Kind: api.NodeVar, Ref: i}) }

// let: an assignment to a variable.
func let(i int, right []api.Node) []api.Node {
	return over(api.Node{Kind: api.NodeAssign}, varNode(i), right)
}

// begun: a new store whose record was set to "10 abc".
func begun() *store.Store {
	s := store.New()
	s.SetField(0, str("10 abc"))
	return s
}

// change: what a test does to a store by the store's own calls.
type change func(*store.Store)

// made: a store that began and was changed.
func made(changes ...change) *store.Store {
	s := begun()
	for _, c := range changes {
		if c != nil {
			c(s)
		}
	}
	return s
}

// set: variable i becomes v.
func set(i int, v api.Value) change { return func(s *store.Store) { s.SetVar(i, v) } }

// format: CONVFMT becomes a string.
func format(text string) change { return set(api.VarConvfmt, str(text)) }

// elem: the element of array a at key becomes v.
func elem(a int, key string, v api.Value) change {
	return func(s *store.Store) { s.SetElem(a, key, v) }
}

// field: $i becomes v.
func field(i int, v api.Value) change { return func(s *store.Store) { s.SetField(i, v) } }

// all: these changes, one behind the other.
func all(changes ...change) change {
	return func(s *store.Store) {
		for _, c := range changes {
			c(s)
		}
	}
}

// same: whether two states hold the same; a list that holds nothing may be nil.
func same(a api.State, b api.State) bool {
	return slices.Equal(a.Vars, b.Vars) && slices.EqualFunc(a.Arrays, b.Arrays, slices.Equal[[]api.Item]) && a.Record == b.Record && slices.Equal(a.Fields, b.Fields)
}

// compiled: the tree's code, which must be checked and within its limits.
func compiled(t *testing.T, what any, e api.Tree) api.Code {
	t.Helper()
	nodes := slices.Clone(e.Nodes)
	c, err := lower.Compile(e)
	if err != api.OK {
		t.Fatalf("Compile of %s: error %d", brief(what), err)
	}
	if _, at, err := code.Check(c); err != api.OK {
		t.Fatalf("Compile of %s: %s, error %d at %d", brief(what), brief(c), err, at)
	}
	if n := 8 * len(nodes); len(c.Ops) > n || len(c.Nums) > n || len(c.Strs) > n {
		t.Fatalf("Compile of %s: %d nodes became %d instructions, %d numbers, %d texts", brief(what), len(nodes), len(c.Ops), len(c.Nums), len(c.Strs))
	}
	if !slices.Equal(nodes, e.Nodes) {
		t.Fatalf("Compile of %s: the tree became %s", brief(what), brief(e))
	}
	return c
}

// folded: what became of the tree, which must be a tree, no greater and no deeper, and become the same again.
func folded(t *testing.T, what any, e api.Tree) api.Tree {
	t.Helper()
	nodes := slices.Clone(e.Nodes)
	f, err := lower.Fold(e)
	if err != api.OK {
		t.Fatalf("Fold of %s: error %d", brief(what), err)
	}
	if at, err := tree.Check(f); err != api.OK {
		t.Fatalf("Fold of %s: %s, error %d at %d", brief(what), brief(f), err, at)
	}
	was, _ := tree.Depth(e)
	if depth, _ := tree.Depth(f); len(f.Nodes) > len(nodes) || depth > was {
		t.Fatalf("Fold of %s: %d nodes, %d deep, became %d, %d deep", brief(what), len(nodes), was, len(f.Nodes), depth)
	}
	if again, err := lower.Fold(f); err != api.OK || !slices.Equal(again.Nodes, f.Nodes) {
		t.Fatalf("Fold of Fold of %s: %s, error %d, not %s", brief(what), brief(again), err, brief(f))
	}
	if !slices.Equal(nodes, e.Nodes) {
		t.Fatalf("Fold of %s: the tree became %s", brief(what), brief(e))
	}
	return f
}

// answer: what an expression comes to.
type answer struct {
	v api.Value
	e api.Errno
}

// runs: the tree's code over a state must give this answer and this state behind it, in no more steps than it has instructions.
func runs(t *testing.T, what any, e api.Tree, st api.State, want answer, after api.State) {
	t.Helper()
	c := compiled(t, what, e)
	v, got, steps, err := machine.RunState(c, st)
	if (answer{v, err}) != want || !same(got, after) {
		t.Fatalf("the code of %s: %s, error %d, want %s; the state is %s, want %s", brief(what), brief(v), err, brief(want), brief(got), brief(after))
	}
	if steps > len(c.Ops) {
		t.Fatalf("the code of %s: %d steps of %d instructions", brief(what), steps, len(c.Ops))
	}
}

// hold: over a state, the tree's code, what becomes of the tree, and the code of that must all give this answer and this state behind it.
func hold(t *testing.T, what any, e api.Tree, st api.State, want answer, after api.State) {
	t.Helper()
	runs(t, what, e, st, want, after)
	f := folded(t, what, e)
	if slices.Equal(e.Nodes, f.Nodes) {
		return
	}
	v, got, err := walk.EvalState(f, st)
	if (answer{v, err}) != want || !same(got, after) {
		t.Fatalf("Fold of %s: %s, error %d, want %s; the state is %s, want %s", brief(what), brief(v), err, brief(want), brief(got), brief(after))
	}
	runs(t, []any{"Fold of", what}, f, st, want, after)
}

// holdWalk: what a walk over the tree gives must be held.
func holdWalk(t *testing.T, what any, e api.Tree, st api.State) answer {
	t.Helper()
	v, after, err := walk.EvalState(e, st)
	hold(t, what, e, st, answer{v, err}, after)
	return answer{v, err}
}

// line of a table: an expression over a store that began and was changed by ahead; its value, its error, and how the store is changed.
type line struct {
	text  string
	ahead change
	v     api.Value
	e     api.Errno
	after change
}

// holdLines: every line must hold.
func holdLines(t *testing.T, lines []line) {
	t.Helper()
	for _, l := range lines {
		hold(t, l.text, read(t, l.text), made(l.ahead).Dump(), answer{l.v, l.e}, made(l.ahead, l.after).Dump())
	}
}
