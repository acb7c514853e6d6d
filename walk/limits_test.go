package walk_test

import (
	"fmt"
	"math"
	"strings"
	"testing"

	"abacus/api"
	"abacus/store"
	"abacus/walk"
)

// P25.1: what is made has at most MaxText bytes; what is only read, and a key of one subscript, may have more.
func TestLongTexts(t *testing.T) {
	full, more := set(x, str(row(most))), set(x, str(row(most+1)))
	long := set(api.VarConvfmt, str(row(most-3)+"%.1f")) // 0.5 is written with MaxText bytes, -0.5 with one more
	holdLines(t, []line{
		{`x ""`, full, str(row(most)), api.OK, nil},
		{`x 1`, full, none, api.ErrLong, nil},
		{`1 x`, full, none, api.ErrLong, nil},
		{`x x`, full, none, api.ErrLong, nil},
		{`x ""`, more, none, api.ErrLong, nil},
		{"x", more, str(row(most + 1)), api.OK, nil},
		{"length(x)", more, num(most + 1), api.OK, nil},
		{"substr(x, 2)", more, str(row(most)), api.OK, nil},
		{"toupper(x)", more, str(strings.ToUpper(row(most + 1))), api.OK, nil},
		{`index(x y, "y")`, all(full, set(y, str(""))), num(0), api.OK, nil},
		{"x == y", all(more, set(y, str(row(most)))), num(0), api.OK, nil},
		{"(x in a)", more, num(0), api.OK, nil},
		{"a[x] = 1", more, num(1), api.OK, elem(0, row(most+1), num(1))},
		{`a[x, ""]`, full, none, api.ErrLong, nil},
		{`a[x, ""]`, more, none, api.ErrLong, nil},
		{`a[x, ""]`, all(full, set(api.VarSubsep, str(""))), none, api.OK, elem(0, row(most), none)},
		{`a[x, 1]`, all(full, set(api.VarSubsep, str(""))), none, api.ErrLong, nil},
		{`a["", ""]`, set(api.VarSubsep, str(row(most))), none, api.OK, elem(0, row(most), none)},
		{`a["", "", ""]`, set(api.VarSubsep, str(row(most))), none, api.ErrLong, nil},
		{`((x, "") in a)`, full, none, api.ErrLong, nil},
		{`a[x, ""] = y = 1`, full, none, api.ErrLong, nil},
		{`a[x, 1]`, all(full, set(api.VarSubsep, num(0.5)), set(api.VarConvfmt, str("%d"))), none, api.ErrConv, nil},
		{`0.5 ""`, long, str(row(most-3) + "0.5"), api.OK, nil},
		{`-0.5 ""`, long, none, api.ErrLong, nil},
		{`"" (-0.5)`, long, none, api.ErrLong, nil},
		{`a[-0.5]`, long, none, api.ErrLong, nil},
		{`(-0.5 in a)`, long, none, api.ErrLong, nil},
		{`-0.5 == "x"`, long, none, api.ErrLong, nil},
		{`length(-0.5)`, long, none, api.ErrLong, nil},
		{`sprintf(-0.5)`, long, none, api.ErrLong, nil},
		{`sprintf("%s", -0.5)`, long, none, api.ErrLong, nil},
		{`split(-0.5, a, "y")`, all(long, elem(0, "k", num(1))), none, api.ErrLong, nil},
		{`sub(-0.5, "", y)`, long, none, api.ErrLong, nil},
		{`sub("", -0.5, y)`, long, none, api.ErrLong, nil},
		{`sub("q", "", y)`, all(long, set(y, num(-0.5))), none, api.ErrLong, nil},
		{`a[1, 2]`, all(long, set(api.VarSubsep, num(-0.5))), none, api.ErrLong, nil},
		{`a[1]`, all(long, set(api.VarSubsep, num(-0.5))), none, api.OK, elem(0, "1", none)},
		{`sprintf("%s", x)`, full, str(row(most)), api.OK, nil},
		{`sprintf("%s ", x)`, full, none, api.ErrLong, nil},
		{`sub("x", "yy", x)`, full, none, api.ErrLong, nil},
		{`sub("x", "y", x)`, full, num(1), api.OK, set(x, str("y"+row(most-1)))},
		{`gsub("x", "y", x)`, full, num(most), api.OK, set(x, str(strings.Repeat("y", most)))},
		{`gsub("x", "yy", x)`, set(x, str(row(most/2))), num(most / 2), api.OK, set(x, str(strings.Repeat("y", most)))},
		{`gsub("x", "yy", x)`, set(x, str(row(most/2+1))), none, api.ErrLong, nil},
		{`sub("q", "r", x)`, more, none, api.ErrLong, nil},
		{`sub("x", "", x)`, more, num(1), api.OK, set(x, str(row(most)))},
		{`sub("q", "r", a["k"])`, elem(0, "k", str(row(most+1))), none, api.ErrLong, nil},
		{`split(x, a, "y")`, more, num(1), api.OK, elem(0, "1", str(row(most+1)))},
		{"$0 = x", full, str(row(most)), api.OK, field(0, str(row(most)))},
		{"$0 = x", more, none, api.ErrLong, nil},
		{"$2 = x", full, none, api.ErrLong, nil},
		{"$1 = x", all(full, set(api.VarNf, num(1))), str(row(most)), api.OK, field(1, str(row(most)))},
		{"NF = 3", set(api.VarOfs, str(row(most/2-3))), num(3), api.OK, set(api.VarNf, num(3))},
		{"NF = 3", set(api.VarOfs, str(row(most/2-2))), none, api.ErrLong, nil},
		{"NF++", set(api.VarOfs, str(row(most/2-2))), none, api.ErrLong, nil},
	})
}

// P25.1: trees as deep and as large as they may be.
func TestGreatTrees(t *testing.T) {
	chain := func(kind int, depth int) api.Tree {
		nodes := varNode(x)
		for range depth - 1 {
			nodes = append(nodes, api.Node{Kind: kind, N: 1})
		}
		return api.Tree{Nodes: nodes}
	}
	start := set(x, num(1))
	hold(t, "a deep row of -", chain(api.NodeNeg, 200), made(start), num(-1), api.OK, made(start))
	hold(t, "a row of - that is too deep", chain(api.NodeNeg, 201), made(start), none, api.ErrDepth, made(start))
	// Each element's subscript is the element below it.
	hold(t, "a deep row of []", chain(api.NodeElem, 200), made(start), none, api.OK, made(start, elem(0, "1", none), elem(0, "", none)))
	hold(t, "a deep row of $", chain(api.NodeField, 3), made(start), none, api.OK, made(start))

	deep := numNode(1)
	for range 199 {
		deep = append(varNode(x), append(deep, api.Node{Kind: api.NodeOpSet, Op: api.OpAdd, N: 2})...)
	}
	// Each += reads x behind the one that is its right side.
	great := num(math.Ldexp(1, 198))
	hold(t, "a deep row of +=", api.Tree{Nodes: deep}, begun(), great, api.OK, made(set(x, great)))

	nodes, key, text := []api.Node{}, []string{}, []string{}
	for i := range api.MaxNodes - 2 {
		nodes = append(nodes, numNode(float64(i%10))...)
		key = append(key, fmt.Sprint(i%10))
		text = append(text, "%s")
	}
	wide := api.Tree{Nodes: append(nodes, api.Node{Kind: api.NodeElem, N: len(nodes)})}
	hold(t, "an element with many subscripts", wide, begun(), none, api.OK, made(elem(0, strings.Join(key, "\x1c"), none)))
	nodes = append(strNode(strings.Join(text, "")), nodes...)
	wide = api.Tree{Nodes: append(nodes, api.Node{Kind: api.NodeCall, Op: api.FnSprintf, N: len(nodes)})}
	hold(t, "sprintf with many values", wide, begun(), str(strings.Join(key, "")), api.OK, begun())
	wide.Nodes = append(numNode(1), wide.Nodes...)
	wide.Nodes[len(wide.Nodes)-1].N++
	hold(t, "too many nodes", wide, begun(), none, api.ErrNodes, begun())
}

// P25.1, P25.2: the errors of tree.Check come first, then ErrState; neither does anything.
func TestWrongTrees(t *testing.T) {
	bad := api.State{Arrays: [][]api.Item{{{Key: "b"}, {Key: "a"}}}}
	good := made(set(x, num(5)), elem(0, "k", str("v")), field(3, num(1)))
	for _, l := range []struct {
		nodes []api.Node
		e     api.Errno
	}{
		{nil, api.ErrTree},
		{append(numNode(1), numNode(2)...), api.ErrTree},
		{[]api.Node{{}}, api.ErrTree},
		{[]api.Node{{Kind: 20}}, api.ErrTree},
		{[]api.Node{{Kind: -1}}, api.ErrTree},
		{[]api.Node{{Kind: api.NodeNum, N: 1}}, api.ErrTree},
		{[]api.Node{{Kind: api.NodeNum, N: -1}}, api.ErrTree},
		{[]api.Node{{Kind: api.NodeNum, Str: "x"}}, api.ErrTree},
		{[]api.Node{{Kind: api.NodeStr, Num: 1}}, api.ErrTree},
		{[]api.Node{{Kind: api.NodeVar, Ref: 256}}, api.ErrTree},
		{[]api.Node{{Kind: api.NodeVar, Ref: -1}}, api.ErrTree},
		{over(api.Node{Kind: api.NodeElem, Ref: 64}, numNode(1)), api.ErrTree},
		{[]api.Node{{Kind: api.NodeElem}}, api.ErrTree},
		{[]api.Node{{Kind: api.NodeNeg, N: 1}}, api.ErrTree},
		{over(api.Node{Kind: api.NodeBin, Op: 7}, let(x, numNode(1)), numNode(2)), api.ErrTree},
		{over(api.Node{Kind: api.NodeBin, Op: 0}, numNode(1), numNode(2)), api.ErrTree},
		{over(api.Node{Kind: api.NodeRel, Op: 7}, numNode(1), numNode(2)), api.ErrTree},
		{over(api.Node{Kind: api.NodeStep, Op: 5}, varNode(x)), api.ErrTree},
		{over(api.Node{Kind: api.NodeStep, Op: 1}, numNode(1)), api.ErrTree},
		{over(api.Node{Kind: api.NodeAssign}, numNode(1), numNode(1)), api.ErrTree},
		{over(api.Node{Kind: api.NodeCall, Op: 14}, numNode(1)), api.ErrTree},
		{over(api.Node{Kind: api.NodeCall, Op: api.FnSub}, let(x, numNode(1)), numNode(1), numNode(1)), api.ErrTree},
		{over(api.Node{Kind: api.NodeCall, Op: api.FnAsort}, numNode(1)), api.ErrTree},
		{over(api.Node{Kind: api.NodeCall, Op: api.FnLength, Ref: 1}, numNode(1)), api.ErrTree},
		{make([]api.Node, api.MaxNodes+1), api.ErrNodes},
	} {
		e := api.Tree{Nodes: l.nodes}
		hold(t, brief(l.nodes), e, copyOf(t, good), none, l.e, good)
		if v, err := walk.Eval(e, nil); v != none || err != l.e {
			t.Errorf("Eval of %s without a store: %s, error %d, want %d", brief(l.nodes), brief(v), err, l.e)
		}
		if v, st, err := walk.EvalState(e, bad); v != none || !same(st, api.State{}) || err != l.e {
			t.Errorf("EvalState of %s, of no state: %s, %s, error %d, want %d", brief(l.nodes), brief(v), brief(st), err, l.e)
		}
	}
}

// P25.1, P25.2: no store, and states that are none.
func TestWrongStates(t *testing.T) {
	items := func(keys ...string) (list []api.Item) {
		for _, key := range keys {
			list = append(list, api.Item{Key: key})
		}
		return list
	}
	for _, text := range []string{"1", "x", "x = 1", "1 / 0", "a[1]", "asort(a)", "NF"} {
		e := read(t, text)
		if v, err := walk.Eval(e, nil); v != none || err != api.ErrState {
			t.Errorf("Eval(%s) without a store: %s, error %d", text, brief(v), err)
		}
		for _, st := range []api.State{
			{Vars: make([]api.Value, api.MaxVars+1)}, {Arrays: make([][]api.Item, api.MaxArrays+1)}, {Fields: make([]api.Value, api.MaxFields+1)},
			{Arrays: [][]api.Item{items("b", "a")}}, {Arrays: [][]api.Item{nil, items("a", "a")}},
		} {
			if v, got, err := walk.EvalState(e, st); v != none || !same(got, api.State{}) || err != api.ErrState {
				t.Errorf("EvalState(%s) of no state: %s, %s, error %d", text, brief(v), brief(got), err)
			}
		}
	}
	// The zero State is one, without a CONVFMT.
	for text, want := range map[string]api.Value{"x": none, "NF": num(0), "$0": str(""), `1 ""`: str("1"), "a[1, 2]": none, `CONVFMT = "%.1f"`: str("%.1f")} {
		if v, _, err := walk.EvalState(read(t, text), api.State{}); v != want || err != api.OK {
			t.Errorf("EvalState(%s) of the zero State: %s, error %d", text, brief(v), err)
		}
	}
	if _, st, err := walk.EvalState(read(t, `(x = 1) 0.5`), api.State{}); err != api.ErrConv || len(st.Vars) != x+1 || st.Vars[x] != num(1) {
		t.Errorf("EvalState behind an error: %s, error %d", brief(st), err)
	}
	// Raw values become plain, text and fields need not fit.
	raw := api.State{Vars: []api.Value{{Kind: 9, Num: 1, Str: "x"}, {Kind: api.KindNum, Num: 2, Str: "y"}}, Record: "p q r", Fields: []api.Value{{Kind: api.KindStr, Num: 5, Str: "z"}}}
	want := api.State{Vars: []api.Value{none, pattern(2), none, none, none, none, none, none, num(1)}, Record: "p q r", Fields: []api.Value{str("z")}}
	for text, v := range map[string]api.Value{"CONVFMT": none, "OFMT": pattern(2), "NF": num(1), "$0": str("p q r"), "$1": str("z"), "$2": none} {
		if got, st, e := walk.EvalState(read(t, text), raw); got != v || !same(st, want) || e != api.OK {
			t.Errorf("EvalState(%s): %s, %s, error %d", text, brief(got), brief(st), e)
		}
	}
	s, _ := store.Load(raw)
	hold(t, "NF over a raw state", read(t, "NF"), s, num(1), api.OK, copyOf(t, s))
}
