package tree_test

import (
	"slices"
	"testing"

	"abacus/api"
	"abacus/tree"
)

// fieldsFit: whether a node's own fields hold what the document's tables say.
func fieldsFit(n api.Node) bool {
	type row struct {
		ops, refs int
		counts    []int
	}
	arrays, one, two := 64, []int{1}, []int{2}
	table := map[int]row{
		1: {}, 2: {}, 3: {refs: 256, counts: []int{0}}, 4: {counts: one}, 5: {refs: arrays, counts: []int{-1}}, 6: {refs: arrays, counts: []int{-1}}, 7: {counts: one}, 8: {counts: one}, 9: {counts: one}, 10: {ops: 6, counts: two}, 11: {counts: two}, 12: {ops: 6, counts: two}, 13: {counts: two}, 14: {counts: two}, 15: {counts: []int{3}}, 16: {counts: two}, 17: {ops: 6, counts: two}, 18: {ops: 4, counts: one}, 19: {ops: 13},
	}
	r, ok := table[n.Kind]
	if !ok || n.Num != 0 && n.Kind != 1 || n.Str != "" && n.Kind != 2 {
		return false
	}
	if r.counts == nil {
		r.counts = []int{0}
	}
	if n.Kind == 19 {
		if n.Op < 1 || n.Op > 13 {
			return false
		}
		r.counts = [][]int{nil, {1}, {2, 3}, {2}, {-1}, {2}, {1}, {1}, {1}, {1}, {3}, {3}, {-1}, {0}}[n.Op]
		if n.Op == 5 || n.Op == 13 {
			r.refs = arrays
		}
	}
	opFits := n.Op == 0 && r.ops == 0 || n.Op >= 1 && n.Op <= r.ops
	refFits := n.Ref == 0 || n.Ref > 0 && n.Ref < r.refs
	countFits := slices.Contains(r.counts, n.N) && n.N >= 0 || r.counts[0] == -1 && n.N >= 1
	return opFits && refFits && countFits
}

// checked: what Check and Depth must answer: each node's kids are told backwards from it.
func checked(nodes []api.Node) (place int, depth int, e api.Errno) {
	if len(nodes) > 10000 {
		return 10000, 0, api.ErrNodes
	}
	deep := -1
	depths := make([]int, len(nodes))
	begin := make([]int, len(nodes))
	for i, n := range nodes {
		if !fieldsFit(n) || n.N > i {
			return i, 0, api.ErrTree
		}
		begin[i] = i
		var k []int
		for range n.N {
			if begin[i] == 0 {
				return i, 0, api.ErrTree
			}
			k = append([]int{begin[i] - 1}, k...)
			begin[i] = begin[begin[i]-1]
		}
		target := -1
		switch {
		case n.Kind >= 16 && n.Kind <= 18:
			target = k[0]
		case n.Kind == 19 && (n.Op == 10 || n.Op == 11):
			target = k[2]
		}
		if target >= 0 && (nodes[target].Kind < 3 || nodes[target].Kind > 5) {
			return i, 0, api.ErrTree
		}
		for _, kid := range k {
			depths[i] = max(depths[i], depths[kid])
		}
		depths[i]++
		if depths[i] > 200 && deep < 0 {
			deep = i
		}
	}
	switch {
	case len(nodes) == 0 || begin[len(nodes)-1] != 0:
		return len(nodes), 0, api.ErrTree
	case deep >= 0:
		return deep, 0, api.ErrDepth
	}
	return 0, depths[len(nodes)-1], api.OK
}

// holdCheck: whether Check and Depth answer as the model does.
func holdCheck(t *testing.T, nodes []api.Node) api.Errno {
	t.Helper()
	place, depth, e := checked(nodes)
	if at, got := tree.Check(api.Tree{Nodes: nodes}); at != place || got != e {
		t.Fatalf("Check(%s) = %d, %d, want %d, %d", brief(nodes), at, got, place, e)
	}
	if d, got := tree.Depth(api.Tree{Nodes: nodes}); d != depth || got != e {
		t.Fatalf("Depth(%s) = %d, %d, want %d, %d", brief(nodes), d, got, depth, e)
	}
	return e
}

var (
	num = api.Node{Kind: api.NodeNum}
	v   = api.Node{Kind: api.NodeVar}
)

// P24.1: the document's examples and their like, by hand.
func TestCheckExamples(t *testing.T) {
	add := api.Node{Kind: api.NodeBin, Op: api.OpAdd, N: 2}
	set := api.Node{Kind: api.NodeAssign, N: 2}
	for _, c := range []struct {
		nodes []api.Node
		place int
		e     api.Errno
		depth int
	}{
		{nil, 0, api.ErrTree, 0}, {[]api.Node{}, 0, api.ErrTree, 0}, {[]api.Node{num}, 0, api.OK, 1}, {[]api.Node{num, num}, 2, api.ErrTree, 0}, {[]api.Node{add}, 0, api.ErrTree, 0}, {[]api.Node{num, add}, 1, api.ErrTree, 0}, {[]api.Node{num, num, add}, 0, api.OK, 2}, {[]api.Node{num, num, num, add}, 4, api.ErrTree, 0}, {[]api.Node{num, num, set}, 2, api.ErrTree, 0}, {[]api.Node{v, num, set}, 0, api.OK, 2}, {[]api.Node{num, v, set}, 2, api.ErrTree, 0}, {[]api.Node{num, {Kind: api.NodeField, N: 1}, num, set}, 0, api.OK, 3}, {[]api.Node{num, {Kind: api.NodeElem, N: 1}, num, set}, 0, api.OK, 3}, {[]api.Node{num, {Kind: api.NodeIn, N: 1}, num, set}, 3, api.ErrTree, 0}, {[]api.Node{{Kind: api.NodeNum, N: 1}}, 0, api.ErrTree, 0}, {[]api.Node{num, {Kind: api.NodeNum, N: 1}}, 1, api.ErrTree, 0}, {[]api.Node{num, num, num, {Kind: api.NodeBin, Op: api.OpMul, N: 2}, add}, 0, api.OK, 3},
		{[]api.Node{v, num, set, {Kind: api.NodeStep, Op: 1, N: 1}}, 3, api.ErrTree, 0}, {[]api.Node{num, num, v, {Kind: api.NodeCall, Op: api.FnSub, N: 3}}, 0, api.OK, 2}, {[]api.Node{v, v, num, {Kind: api.NodeCall, Op: api.FnSub, N: 3}}, 3, api.ErrTree, 0}, {[]api.Node{v, num, v, {Kind: api.NodeCall, Op: api.FnGsub, N: 3}}, 0, api.OK, 2}, {[]api.Node{{Kind: api.NodeCall, Op: api.FnAsort, Ref: 63}}, 0, api.OK, 1}, {[]api.Node{{Kind: api.NodeCall, Op: api.FnAsort, Ref: 64}}, 0, api.ErrTree, 0},
		{[]api.Node{num, {}, add}, 1, api.ErrTree, 0}, {[]api.Node{num, num, {Kind: api.NodeNum, Op: 1}}, 2, api.ErrTree, 0}, {[]api.Node{{Kind: 99}, {Kind: 98}}, 0, api.ErrTree, 0},
	} {
		if place, e := tree.Check(api.Tree{Nodes: c.nodes}); place != c.place || e != c.e {
			t.Errorf("Check(%v) = %d, %d, want %d, %d", c.nodes, place, e, c.place, c.e)
		}
		if depth, e := tree.Depth(api.Tree{Nodes: c.nodes}); depth != c.depth || e != c.e {
			t.Errorf("Depth(%v) = %d, %d, want %d, %d", c.nodes, depth, e, c.depth, c.e)
		}
		holdCheck(t, c.nodes)
	}
}

// P24.1: every Kind with every Op and N near the tables' edges, with other fields too, behind enough targets and others.
func TestCheckFields(t *testing.T) {
	ends := []int{-1 << 63, 1<<63 - 1, 1 << 32, -1 << 32, 1<<31 + 1}
	field := api.Node{Kind: api.NodeField, N: 1}
	for kind := -2; kind <= 22; kind++ {
		for _, op := range append([]int{-1, 0, 1, 2, 3, 4, 5, 6, 7, 8, 9, 10, 11, 12, 13, 14}, ends...) {
			for _, count := range append([]int{-1, 0, 1, 2, 3, 4, 5, 100}, ends...) {
				for _, ref := range append([]int{-1, 0, 1, 63, 64, 255, 256}, ends...) {
					n := api.Node{Kind: kind, Op: op, Ref: ref, N: count}
					for _, one := range []api.Node{v, num, {Kind: api.NodeStr}} {
						if count >= 0 && count < 6 {
							holdCheck(t, append(slices.Repeat([]api.Node{one}, count), n))
						}
					}
					holdCheck(t, []api.Node{num, v, n})
				}
			}
		}
		for op := range 14 {
			for count := range 5 {
				for _, kid := range [][]api.Node{{v}, {num}, {num, field}, {num, {Kind: api.NodeElem, N: 1}}, {num, {Kind: api.NodeIn, N: 1}}} {
					for _, n := range []api.Node{{Kind: kind, Op: op, N: count}, {Kind: kind, Op: op, N: count, Num: 1}, {Kind: kind, Op: op, N: count, Num: 1 << 63}, {Kind: kind, Op: op, N: count, Str: "\x00"}} {
						holdCheck(t, append(slices.Concat(slices.Repeat(kid, count)), n))
						holdCheck(t, append(slices.Concat(slices.Repeat([]api.Node{num}, max(count-1, 0)), kid), n))
						holdCheck(t, append(slices.Concat(kid, slices.Repeat([]api.Node{num}, max(count-1, 0))), n))
					}
				}
			}
		}
	}
	for _, kind := range []int{0, 20, -1, 1 << 62, -1 << 63} {
		if place, e := tree.Check(api.Tree{Nodes: []api.Node{{Kind: kind}}}); place != 0 || e != api.ErrTree {
			t.Errorf("Kind %d: %d, %d", kind, place, e)
		}
	}
}

// P24.1: every short list of some nodes.
func TestCheckShortLists(t *testing.T) {
	alphabet := []api.Node{num, v, {Kind: api.NodeNot, N: 1}, {Kind: api.NodeCat, N: 2}, {Kind: api.NodeAssign, N: 2}, {Kind: api.NodeElem, N: 2}, {Kind: api.NodeCall, Op: api.FnGsub, N: 3}, {Kind: api.NodeCall, Op: api.FnSum, N: 4}, {Kind: api.NodeCall, Op: api.FnAsort}}
	lists := [][]api.Node{nil}
	for range 6 {
		var longer [][]api.Node
		for _, list := range lists {
			holdCheck(t, list)
			// A list with a fault at a node stays so, whatever stands behind.
			if place, e := tree.Check(api.Tree{Nodes: list}); e == api.OK || place == len(list) {
				for _, one := range alphabet {
					longer = append(longer, append(slices.Clone(list), one))
				}
			}
		}
		lists = longer
	}
	for _, list := range lists {
		holdCheck(t, list)
	}
}

// P24.1: drawn trees, as they are and with nodes changed, left out, put in or swapped.
func TestCheckDrawn(t *testing.T) {
	seed := uint64(242)
	fine := 0
	for range 40000 {
		nodes := drawTree(&seed, between(&seed, 1, 6), 256, 64)
		if holdCheck(t, nodes) != api.OK {
			t.Fatalf("a drawn tree is refused: %s", brief(nodes))
		}
		for range between(&seed, 1, 2) {
			i, j := between(&seed, 0, len(nodes)-1), between(&seed, 0, len(nodes)-1)
			switch between(&seed, 0, 8) {
			case 0:
				nodes[i].Kind = between(&seed, 0, 20)
			case 1:
				nodes[i].Op = between(&seed, -1, 14)
			case 2:
				nodes[i].Ref = pick(&seed, -1, 0, 63, 64, 255, 256)
			case 3:
				nodes[i].N += pick(&seed, -1, 1)
			case 4:
				nodes[i].Num = random(&seed)
			case 5:
				nodes[i].Str = "s"
			case 6:
				nodes = slices.Insert(nodes, i, nodes[j])
			case 7:
				nodes[i], nodes[j] = nodes[j], nodes[i]
			default:
				if len(nodes) > 1 {
					nodes = slices.Delete(nodes, i, i+1)
				}
			}
		}
		if holdCheck(t, nodes) == api.OK {
			fine++
		}
	}
	if fine < 2000 {
		t.Errorf("only %d of the changed trees were trees", fine)
	}
}

// P24.1: nodes and depth, to the last and one more, with their order.
func TestCheckLimits(t *testing.T) {
	neg := api.Node{Kind: api.NodeNeg, N: 1}
	chain := func(count int) []api.Node { return append([]api.Node{num}, slices.Repeat([]api.Node{neg}, count-1)...) }
	many := func(count int) []api.Node {
		return append(slices.Repeat([]api.Node{num}, count-1), api.Node{Kind: api.NodeCall, Op: api.FnSum, N: count - 1})
	}
	sum := func(count int) api.Node { return api.Node{Kind: api.NodeCall, Op: api.FnSum, N: count} }
	for _, c := range []struct {
		what  string
		nodes []api.Node
		place int
		e     api.Errno
		depth int
	}{
		{"depth 200", chain(200), 0, api.OK, 200}, {"depth 201", chain(201), 200, api.ErrDepth, 0}, {"depth 300", chain(300), 200, api.ErrDepth, 0}, {"depth 10000", chain(10000), 200, api.ErrDepth, 0}, {"too many, and deep", chain(10001), 10000, api.ErrNodes, 0},
		{"10000 nodes", many(10000), 0, api.OK, 2}, {"10001 nodes", many(10001), 10000, api.ErrNodes, 0}, {"10001 nodes that are none", make([]api.Node, 10001), 10000, api.ErrNodes, 0}, {"10000 that are none", make([]api.Node, 10000), 0, api.ErrTree, 0}, {"a million", make([]api.Node, 1000000), 10000, api.ErrNodes, 0},
		{"two trees, one too deep", append(chain(250), num), 251, api.ErrTree, 0}, {"a fault behind one too deep", append(chain(250), api.Node{}), 250, api.ErrTree, 0}, {"a deep one as the second kid", slices.Concat([]api.Node{num}, chain(200), []api.Node{sum(2)}), 201, api.ErrDepth, 0}, {"as the first kid", slices.Concat(chain(200), []api.Node{num, sum(2)}), 201, api.ErrDepth, 0}, {"two deep ones", slices.Concat(chain(205), chain(201), []api.Node{sum(2)}), 200, api.ErrDepth, 0}, {"the deepest that may be, in the midst", slices.Concat(chain(20), chain(199), chain(198), []api.Node{sum(3)}), 0, api.OK, 200},
	} {
		if place, e := tree.Check(api.Tree{Nodes: c.nodes}); place != c.place || e != c.e {
			t.Errorf("%s: Check = %d, %d, want %d, %d", c.what, place, e, c.place, c.e)
		}
		if depth, e := tree.Depth(api.Tree{Nodes: c.nodes}); depth != c.depth || e != c.e {
			t.Errorf("%s: Depth = %d, %d, want %d, %d", c.what, depth, e, c.depth, c.e)
		}
		holdCheck(t, c.nodes)
	}
}
