package lower_test

import (
	"fmt"
	"slices"
	"sync"
	"testing"
	"unsafe"

	"abacus/api"
	"abacus/lower"
)

// shares: whether two texts lie in one memory, in part at least.
func shares(a string, b string) bool {
	if a == "" || b == "" {
		return false
	}
	p, q := uintptr(unsafe.Pointer(unsafe.StringData(a))), uintptr(unsafe.Pointer(unsafe.StringData(b)))
	return p < q+uintptr(len(b)) && q < p+uintptr(len(a))
}

// room: all texts of a list's nodes, those of its spare room too.
func room(nodes []api.Node) (list []string) {
	for _, n := range nodes[:cap(nodes)] {
		list = append(list, n.Str)
	}
	return list
}

// P2: what is answered shares no text with the tree, in spare room neither, and no two of an answer's texts share one.
func TestNewMemory(t *testing.T) {
	for _, given := range []string{"e", "te xt", row(500)} {
		s := string([]byte(given))
		text := strNode(s)
		for what, nodes := range map[string][]api.Node{
			"a text": text, "two texts": over(api.Node{Kind: api.NodeCat}, text, text), "a text that is chosen": over(api.Node{Kind: api.NodeCond}, numNode(1), text, text),
			"a text that falls away": over(api.Node{Kind: api.NodeAnd}, numNode(0), text), "texts of which one stays": over(api.Node{Kind: api.NodeCond}, numNode(0), over(api.Node{Kind: api.NodeCat}, text, text), text),
			"a text behind what falls away": over(api.Node{Kind: api.NodeCat}, over(api.Node{Kind: api.NodeOr}, numNode(1), text), text),
		} {
			e := api.Tree{Nodes: nodes}
			c, err := lower.Compile(e)
			f, fault := lower.Fold(e)
			if err != api.OK || fault != api.OK {
				t.Fatalf("%s: errors %d, %d", what, err, fault)
			}
			texts := slices.Concat(c.Strs[:cap(c.Strs)], room(f.Nodes))
			for i, one := range texts {
				if shares(one, s) {
					t.Errorf("%s: the answer shares the tree's text", what)
				}
				for _, other := range texts[:i] {
					if shares(one, other) {
						t.Errorf("%s: two texts of the answer share memory", what)
					}
				}
			}
		}
	}
}

// P2: a list that is handed in isn't changed or kept, its spare room neither; what is answered is the caller's.
func TestLists(t *testing.T) {
	nodes := append(read(t, `x = (1 + 1 ? a["k"] : "never") "t"`).Nodes, api.Node{Kind: 77, Str: "spare"}, api.Node{Kind: 78})
	kept := slices.Clone(nodes)
	e := api.Tree{Nodes: nodes[:len(nodes)-2]}
	c, _ := lower.Compile(e)
	f, _ := lower.Fold(e)
	want := fmt.Sprint(c, f)
	if !slices.Equal(nodes, kept) {
		t.Errorf("the nodes became %s", brief(nodes))
	}
	again, _ := lower.Compile(e)
	turned, _ := lower.Fold(e)
	clear(again.Ops[:cap(again.Ops)])
	clear(again.Nums[:cap(again.Nums)])
	clear(again.Strs[:cap(again.Strs)])
	clear(turned.Nodes[:cap(turned.Nodes)])
	clear(nodes)
	if fmt.Sprint(c, f) != want {
		t.Errorf("the answers became %s, %s", brief(c), brief(f))
	}
}

// P2, P28.1: the same calls answer the same, whatever was called ahead of them or beside them; the code hangs on the tree alone.
func TestNothingIsKept(t *testing.T) {
	run := func() string {
		var list []any
		for _, text := range []string{"x += y++", "x && y || z", "x ? 1 + 1 : y", `gsub("a", "b")`, "1 / 0", "a[1 + 1, 2] = 3 ^ 2"} {
			c, e := lower.Compile(read(t, text))
			f, fault := lower.Fold(read(t, text))
			list = append(list, c, e, f, fault)
		}
		c, e := lower.Compile(api.Tree{})
		f, fault := lower.Fold(api.Tree{})
		return fmt.Sprint(append(list, c, e, f, fault)...)
	}
	want := run()
	var group sync.WaitGroup
	for range 8 {
		group.Go(func() {
			for range 50 {
				if got := run(); got != want {
					t.Errorf("%s, then %s", want, got)
				}
			}
		})
	}
	group.Wait()
}
