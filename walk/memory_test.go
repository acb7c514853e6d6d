package walk_test

import (
	"fmt"
	"slices"
	"sync"
	"testing"
	"unsafe"

	"abacus/api"
	"abacus/store"
	"abacus/walk"
)

// shares: whether two texts lie in one memory, in part at least.
func shares(a string, b string) bool {
	if a == "" || b == "" {
		return false
	}
	p, q := uintptr(unsafe.Pointer(unsafe.StringData(a))), uintptr(unsafe.Pointer(unsafe.StringData(b)))
	return p < q+uintptr(len(b)) && q < p+uintptr(len(a))
}

// texts: all the texts of a state.
func texts(st api.State) []string {
	list := []string{st.Record}
	for _, v := range slices.Concat(st.Vars, st.Fields) {
		list = append(list, v.Str)
	}
	for _, array := range st.Arrays {
		for _, item := range array {
			list = append(list, item.Key, item.Val.Str)
		}
	}
	return list
}

// keeping: trees that keep or answer the text s, which stands in the tree or in variable z.
func keeping(s string) map[string][]api.Node {
	list := map[string][]api.Node{}
	for where, text := range map[string][]api.Node{"the tree's": strNode(s), "the variable's": varNode(z)} {
		list[where+" text"] = text
		list[where+" text in a variable"] = let(x, text)
		list[where+" text in CONVFMT"] = let(api.VarConvfmt, text)
		list[where+" text in a record"] = over(api.Node{Kind: api.NodeAssign}, over(api.Node{Kind: api.NodeField}, numNode(0)), text)
		list[where+" text in a field"] = over(api.Node{Kind: api.NodeAssign}, over(api.Node{Kind: api.NodeField}, numNode(2)), text)
		list[where+" text in an element"] = over(api.Node{Kind: api.NodeAssign}, over(api.Node{Kind: api.NodeElem}, numNode(2)), text)
		list[where+" text as a key"] = over(api.Node{Kind: api.NodeElem}, text)
		list[where+" text as a key that is written"] = over(api.Node{Kind: api.NodeAssign}, over(api.Node{Kind: api.NodeElem}, text), numNode(1))
		list[where+" text as a part"] = over(api.Node{Kind: api.NodeCall, Op: api.FnSplit}, text, strNode("never"))
		list[where+" text in its place"] = over(api.Node{Kind: api.NodeCall, Op: api.FnSub}, strNode(""), text, varNode(x))
		list[where+" text put together"] = over(api.Node{Kind: api.NodeCat}, text, strNode(""))
		list[where+" text as a format"] = over(api.Node{Kind: api.NodeCall, Op: api.FnSprintf}, text)
		list[where+" text cut"] = over(api.Node{Kind: api.NodeCall, Op: api.FnSubstr}, text, numNode(1))
		list[where+" text chosen"] = over(api.Node{Kind: api.NodeCond}, numNode(1), text, numNode(1))
	}
	return list
}

// P2: an answer shares no memory with the tree, the store or the state, and neither does a store or a state that is answered with a tree or with the state that was given.
func TestNewMemory(t *testing.T) {
	for _, given := range []string{"e", "te xt", row(500)} {
		s := string([]byte(given))
		for what, nodes := range keeping(s) {
			e := api.Tree{Nodes: nodes}
			of := made(set(z, str(s)))
			st := of.Dump()
			v, err := walk.Eval(e, of)
			if err != api.OK {
				t.Fatalf("%s: error %d", what, err)
			}
			w, behind, _ := walk.EvalState(e, st)
			if v != w || shares(v.Str, w.Str) || shares(v.Str, s) || shares(w.Str, s) {
				t.Errorf("%s: the answer is not new memory", what)
			}
			inside := texts(st)
			for _, text := range slices.Concat(texts(of.Dump()), texts(behind)) {
				if shares(text, s) || shares(text, v.Str) || shares(text, w.Str) {
					t.Errorf("%s: what the store holds is not new memory", what)
				}
			}
			for _, text := range texts(behind) {
				for _, old := range inside {
					if shares(text, old) {
						t.Errorf("%s: the state behind shares %.20q with the one ahead", what, text)
					}
				}
			}
		}
	}
}

// P2: a tree's text that is written over behind the call changes neither the answer nor the store.
func TestTextsAreNotKept(t *testing.T) {
	const given = "te xt"
	for what := range keeping(given) {
		memory := []byte(given)
		nodes := keeping(unsafe.String(&memory[0], len(memory)))[what]
		of, want := made(set(z, str(given))), made(set(z, str(given)))
		v, _ := walk.Eval(api.Tree{Nodes: nodes}, of)
		w, _ := walk.Eval(api.Tree{Nodes: keeping(given)[what]}, want)
		copy(memory, "zzzzz")
		if v != w || !same(of.Dump(), want.Dump()) {
			t.Errorf("%s: %s, %s; want %s, %s", what, brief(v), brief(of.Dump()), brief(w), brief(want.Dump()))
		}
	}
}

// P2: the lists that are handed in aren't changed or kept, their spare room neither; those that are answered are the caller's.
func TestLists(t *testing.T) {
	nodes := append(read(t, `split("p q", a, " ") ($4 = x = asort(b))`).Nodes, api.Node{Kind: 77})
	vars := []api.Value{str("%.6g"), str("o"), str("spare")}
	items := []api.Item{{Key: "a", Val: num(2)}, {Key: "b", Val: num(1)}, {Key: "spare"}}
	lists := [][]api.Item{nil, items[:2], {{Key: "spare"}}}
	fields := []api.Value{num(1), str("f"), str("spare"), str("spare"), str("spare")}
	kept := fmt.Sprint(nodes, vars, items, lists, fields)
	e := api.Tree{Nodes: nodes[:len(nodes)-1]}
	st := api.State{Vars: vars[:2], Arrays: lists[:2], Record: "r", Fields: fields[:2]}
	_, got, _ := walk.EvalState(e, st)
	want := fmt.Sprint(got)
	if fmt.Sprint(nodes, vars, items, lists, fields) != kept {
		t.Errorf("the lists became %v, %v, %v, %v, %v", nodes, vars, items, lists, fields)
	}
	_, again, _ := walk.EvalState(e, st)
	for _, array := range again.Arrays {
		clear(array[:cap(array)])
	}
	clear(again.Vars[:cap(again.Vars)])
	clear(again.Arrays[:cap(again.Arrays)])
	clear(again.Fields[:cap(again.Fields)])
	clear(nodes)
	clear(vars)
	clear(items)
	clear(lists)
	clear(fields)
	if fmt.Sprint(got) != want {
		t.Errorf("the state behind became %s, want %s", brief(got), want)
	}
}

// P2: the same calls answer the same, whatever was called ahead of them or beside them.
func TestNothingIsKept(t *testing.T) {
	texts := []string{"x += y++", `a[x, y] = CONVFMT = "%.3f"`, `split($0, b) asort(b)`, `gsub("a", "b")`, "1 / 0", "NF = 5", "sum(x, y, 0.1, 0.2)", "$9"}
	run := func(s *store.Store) string {
		var list []any
		for _, text := range texts {
			v, e := walk.Eval(read(t, text), s)
			w, st, f := walk.EvalState(read(t, text), s.Dump())
			list = append(list, v, e, w, st, f)
		}
		return fmt.Sprint(append(list, s.Dump())...)
	}
	want := run(begun())
	var group sync.WaitGroup
	for range 8 {
		group.Go(func() {
			for range 20 {
				if got := run(begun()); got != want {
					t.Errorf("%s, then %s", want, got)
				}
			}
		})
	}
	group.Wait()
}
