package tree_test

import (
	"slices"
	"strings"
	"testing"

	"abacus/api"
	"abacus/token"
	"abacus/tree"
)

// holdBack: whether a tree is printed by the document's forms, and read back.
func holdBack(t *testing.T, nodes []api.Node, names api.Names) {
	t.Helper()
	text, e := tree.Print(api.Tree{Nodes: nodes}, names)
	if e != api.OK {
		t.Fatalf("Print(%s, %s): %d", brief(nodes), brief(names), e)
	}
	if want := printed(nodes, len(nodes)-1, names); text != want {
		t.Fatalf("Print(%s) = %s, want %s", brief(nodes), brief(text), brief(want))
	}
	toks := lex(t, text)
	back, all, place, e := tree.ParseAt(toks, 0, names)
	if !slices.Equal(back.Nodes, nodes) || !same(all, names) || place != len(toks)-1 || toks[place].Kind != api.TokEnd || e != api.OK {
		t.Fatalf("ParseAt(%s) = %s, %s, %d, %d, want %s, %s", brief(text), brief(back), brief(all), place, e, brief(nodes), brief(names))
	}
}

// P24.4: drawn trees, printed and read back, with few names and with all that there can be.
func TestThereAndBack(t *testing.T) {
	few := api.Names{Vars: []string{"x", "yy", "_"}, Arrays: []string{"x", "NR", "b1"}}
	all := api.Names{Vars: someNames("v", 247), Arrays: someNames("w", 64)}
	seed := uint64(243)
	for range 6000 {
		levels := between(&seed, 1, 7)
		holdBack(t, drawTree(&seed, levels, 12, 3), few)
		holdBack(t, drawTree(&seed, levels, 256, 64), all)
	}
}

// P24.4: every kind of node with every kind of kid at each place, printed and read back.
func TestEveryPair(t *testing.T) {
	names := api.Names{Vars: []string{"x", "y"}, Arrays: []string{"a", "b"}}
	one := []api.Node{{Kind: api.NodeVar, Ref: 9}}
	var all [][]api.Node
	two := []api.Node{{Kind: api.NodeNum, Num: api.One}}
	for kind := 1; kind <= 19; kind++ {
		for op := range 14 {
			for count := range 4 {
				n := api.Node{Kind: kind, Op: op, N: count}
				for _, k := range [][]api.Node{one, two} {
					nodes := append(slices.Concat(slices.Repeat(k, count)), n)
					if _, e := tree.Check(api.Tree{Nodes: nodes}); e == api.OK {
						all = append(all, nodes)
					}
				}
			}
		}
	}
	if len(all) < 60 {
		t.Fatalf("only %d kinds of nodes", len(all))
	}
	for _, outer := range all {
		root := outer[len(outer)-1]
		holdBack(t, outer, names)
		for place := range root.N {
			for _, kid := range all {
				var nodes []api.Node
				for k := range root.N {
					if k == place {
						nodes = append(nodes, kid...)
					} else {
						nodes = append(nodes, outer[0])
					}
				}
				nodes = append(nodes, root)
				if _, e := tree.Check(api.Tree{Nodes: nodes}); e == api.OK {
					holdBack(t, nodes, names)
				}
			}
		}
	}
}

// P24.4: the greatest trees, printed and read back: deep ones of each kind, and many nodes with as many tokens as can be.
func TestGreatTrees(t *testing.T) {
	names := api.Names{Vars: []string{"x"}, Arrays: []string{"a"}}
	x, asort := api.Node{Kind: api.NodeVar, Ref: 9}, api.Node{Kind: api.NodeCall, Op: api.FnAsort}
	for _, n := range []api.Node{{Kind: api.NodeField, N: 1}, {Kind: api.NodeElem, N: 1}, {Kind: api.NodeIn, N: 1}, {Kind: api.NodeIn, N: 2}, {Kind: api.NodeNeg, N: 1}, {Kind: api.NodeBin, Op: api.OpPow, N: 2}, {Kind: api.NodeRel, Op: api.LT, N: 2}, {Kind: api.NodeCat, N: 2}, {Kind: api.NodeOr, N: 2}, {Kind: api.NodeCond, N: 3}, {Kind: api.NodeAssign, N: 2}, {Kind: api.NodeOpSet, Op: api.OpDiv, N: 2}, {Kind: api.NodeCall, Op: api.FnSplit, N: 2}, {Kind: api.NodeCall, Op: api.FnSprintf, N: 4}} {
		for place := range n.N {
			nodes := []api.Node{x}
			for range 199 {
				nodes = slices.Concat(slices.Repeat([]api.Node{x}, place), nodes, slices.Repeat([]api.Node{x}, n.N-1-place), []api.Node{n})
			}
			if _, e := tree.Check(api.Tree{Nodes: nodes}); e == api.OK {
				holdBack(t, nodes, names)
			}
		}
	}
	var row [][]api.Node
	for range 5000 {
		row = append(row, []api.Node{asort})
	}
	for len(row) > 1 {
		var next [][]api.Node
		for pair := range slices.Chunk(row, 2) {
			if len(pair) == 2 {
				pair = [][]api.Node{slices.Concat(pair[0], pair[1], []api.Node{{Kind: api.NodeIn, N: 2}})}
			}
			next = append(next, pair[0])
		}
		row = next
	}
	if len(row[0]) != 9999 {
		t.Fatalf("%d nodes", len(row[0]))
	}
	holdBack(t, row[0], names)
	holdBack(t, append(slices.Repeat([]api.Node{x}, 9999), api.Node{Kind: api.NodeCall, Op: api.FnSum, N: 9999}), names)
}

// P24.4: what Print refuses, and in which order.
func TestPrintFaults(t *testing.T) {
	x := api.Names{Vars: []string{"x"}, Arrays: []string{"a"}}
	wrong := api.Names{Vars: []string{"x", "x"}}
	minus := api.Node{Kind: api.NodeNum, Num: api.One | api.Sign}
	far, array := api.Node{Kind: api.NodeVar, Ref: 10}, api.Node{Kind: api.NodeElem, Ref: 1, N: 1}
	cat := api.Node{Kind: api.NodeCat, N: 2}
	long := api.Node{Kind: api.NodeStr, Str: strings.Repeat("x", api.MaxText)}
	for _, c := range []struct {
		nodes []api.Node
		names api.Names
		text  string
		e     api.Errno
	}{
		{[]api.Node{minus}, x, "", api.ErrTree}, {[]api.Node{{Kind: api.NodeNum, Num: api.Sign}}, x, "", api.ErrTree}, {[]api.Node{{Kind: api.NodeNum, Num: api.Inf}}, x, "", api.ErrTree}, {[]api.Node{{Kind: api.NodeNum, Num: api.NaN}}, x, "", api.ErrTree}, {[]api.Node{{Kind: api.NodeNum, Num: api.Most}}, x, "1.7976931348623157e+308", api.OK},
		{[]api.Node{{Kind: api.NodeVar, Ref: 9}}, api.Names{}, "", api.ErrNames}, {[]api.Node{{Kind: api.NodeVar, Ref: 9}}, x, "x", api.OK}, {[]api.Node{{Kind: api.NodeVar, Ref: 8}}, api.Names{}, "NF", api.OK}, {[]api.Node{far}, x, "", api.ErrNames}, {[]api.Node{{Kind: api.NodeVar, Ref: 255}}, x, "", api.ErrNames},
		{[]api.Node{num, array}, x, "", api.ErrNames}, {[]api.Node{num, {Kind: api.NodeElem, N: 1}}, x, "a[0]", api.OK}, {[]api.Node{num, {Kind: api.NodeElem, N: 1}}, api.Names{}, "", api.ErrNames}, {[]api.Node{num, {Kind: api.NodeIn, Ref: 1, N: 1}}, x, "", api.ErrNames}, {[]api.Node{{Kind: api.NodeCall, Op: api.FnAsort, Ref: 1}}, x, "", api.ErrNames}, {[]api.Node{{Kind: api.NodeCall, Op: api.FnAsort}}, api.Names{}, "", api.ErrNames}, {[]api.Node{num, num, {Kind: api.NodeCall, Op: api.FnSplit, Ref: 63, N: 2}}, x, "", api.ErrNames}, {[]api.Node{num, {Kind: api.NodeCall, Op: api.FnInt, N: 1}}, api.Names{}, "int(0)", api.OK},
		{nil, wrong, "", api.ErrTree}, {[]api.Node{num}, wrong, "", api.ErrNames}, {[]api.Node{minus}, wrong, "", api.ErrNames}, {make([]api.Node, 10001), wrong, "", api.ErrNodes}, {[]api.Node{minus, num}, x, "", api.ErrTree}, {append([]api.Node{minus}, slices.Repeat([]api.Node{{Kind: api.NodeNeg, N: 1}}, 200)...), wrong, "", api.ErrDepth},
		{[]api.Node{minus, far, cat}, x, "", api.ErrTree}, {[]api.Node{far, minus, cat}, x, "", api.ErrNames}, {[]api.Node{minus, array, cat, num}[:2], x, "", api.ErrTree}, {[]api.Node{num, array, minus, cat}, x, "", api.ErrNames}, {[]api.Node{minus, array, num, cat}, x, "", api.ErrTree},
		{[]api.Node{long}, x, "", api.ErrLong}, {[]api.Node{long, minus, cat}, x, "", api.ErrTree}, {[]api.Node{long, far, cat}, x, "", api.ErrNames}, {[]api.Node{long, num, cat}, wrong, "", api.ErrNames},
	} {
		if text, e := tree.Print(api.Tree{Nodes: c.nodes}, c.names); text != c.text || e != c.e {
			t.Errorf("Print(%s, %v) = %q, %d, want %q, %d", brief(c.nodes), c.names, text, e, c.text, c.e)
		}
	}
}

// P24.4: texts of just MaxText bytes, and of one more, by long texts, by bytes that grow in quotes, by long names and by many nodes.
func TestPrintLong(t *testing.T) {
	const most = api.MaxText
	str := func(s string) api.Node { return api.Node{Kind: api.NodeStr, Str: s} }
	r := strings.Repeat
	name := func(count int) api.Names {
		return api.Names{Vars: []string{r("n", count)}, Arrays: []string{r("m", count)}}
	}
	x := api.Node{Kind: api.NodeVar, Ref: 9}
	cat, neg := api.Node{Kind: api.NodeCat, N: 2}, api.Node{Kind: api.NodeNeg, N: 1}
	for _, c := range []struct {
		what  string
		nodes []api.Node
		names api.Names
		size  int
	}{
		{"a text", []api.Node{str(r("x", most-2))}, name(1), most}, {"a text, one more", []api.Node{str(r("x", most-1))}, name(1), 0}, {"a text, two more", []api.Node{str(r("x", most))}, name(1), 0}, {"a far longer one", []api.Node{str(r("x", 4*most))}, name(1), 0},
		{"bytes that grow", []api.Node{str(r("\x00", most/4-1) + "aa")}, name(1), most}, {"bytes that grow, one more", []api.Node{str(r("\x00", most/4-1) + "aaa")}, name(1), 0}, {"quotes", []api.Node{str(r("\"", most/2-1))}, name(1), most}, {"quotes, more", []api.Node{str(r("\"", most/2))}, name(1), 0},
		{"two texts", []api.Node{str(r("x", most/2)), str(r("y", most/2-7)), cat}, name(1), most}, {"two texts, one more", []api.Node{str(r("x", most/2)), str(r("y", most/2-6)), cat}, name(1), 0}, {"the bracket behind", []api.Node{str(r("x", most-5)), neg}, name(1), most}, {"the bracket behind, one more", []api.Node{str(r("x", most-4)), neg}, name(1), 0},
		{"a name", []api.Node{x}, name(most), most}, {"a name, one more", []api.Node{x}, name(most + 1), 0}, {"a name twice", []api.Node{x, x, cat}, name(most/2 - 2), most - 1}, {"a name twice, more", []api.Node{x, x, cat}, name(most/2 - 1), 0}, {"an array", []api.Node{num, {Kind: api.NodeElem, N: 1}}, name(most - 3), most}, {"an array, one more", []api.Node{num, {Kind: api.NodeElem, N: 1}}, name(most - 2), 0},
		{"a long name often", append(slices.Repeat([]api.Node{x}, 9999), api.Node{Kind: api.NodeCall, Op: api.FnSum, N: 9999}), name(most / 2), 0}, {"a long text often", append(slices.Repeat([]api.Node{str(r("x", most/2))}, 9999), api.Node{Kind: api.NodeCall, Op: api.FnSum, N: 9999}), name(1), 0},
	} {
		text, e := tree.Print(api.Tree{Nodes: c.nodes}, c.names)
		if want := c.size == 0; len(text) != c.size || want != (e == api.ErrLong) || !want && e != api.OK {
			t.Errorf("%s: %d bytes, %d, want %d", c.what, len(text), e, c.size)
		}
		if e == api.OK {
			holdBack(t, c.nodes, c.names)
		}
	}
}

// P24.4: Print of every form of a number and a text is token's.
func TestPrintLeaves(t *testing.T) {
	seed := uint64(244)
	for range 2000 {
		d := random(&seed)
		want, ok := token.Number(d)
		text, e := tree.Print(api.Tree{Nodes: []api.Node{{Kind: api.NodeNum, Num: d}}}, api.Names{})
		if text != want || ok != (e == api.OK) || !ok && e != api.ErrTree {
			t.Errorf("Print of the number %x: %q, %d", d, text, e)
		}
		if ok {
			holdBack(t, []api.Node{{Kind: api.NodeNum, Num: d}}, api.Names{})
		}
	}
	for c := range 256 {
		holdBack(t, []api.Node{{Kind: api.NodeStr, Str: string([]byte{byte(c)}) + "7"}}, api.Names{})
	}
}
