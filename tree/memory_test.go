package tree_test

import (
	"fmt"
	"slices"
	"strings"
	"sync"
	"testing"
	"unsafe"

	"abacus/api"
	"abacus/tree"
)

// shares: whether two texts lie in one memory, in part at least.
func shares(a string, b string) bool {
	if a == "" || b == "" {
		return false
	}
	p, q := uintptr(unsafe.Pointer(unsafe.StringData(a))), uintptr(unsafe.Pointer(unsafe.StringData(b)))
	return p < q+uintptr(len(b)) && q < p+uintptr(len(a))
}

const script = "xx[\"text\", yy] = split(zz, \"more text\") \"t\" sub(yy, xx, $NR)"

// given: tokens and names of one memory, in lists with spare room that is filled.
func given() (memory []byte, toks []api.Token, names api.Names) {
	memory = []byte("xx yy text more text zz split sub t NR")
	whole := unsafe.String(&memory[0], len(memory))
	own := func(text string) string {
		i := strings.Index(whole, text)
		if i < 0 {
			return text
		}
		return whole[i : i+len(text)]
	}
	list := toksOf(`xx [ "text" , yy ] = split ( zz , more ) "t" sub ( yy , xx , $ NR )`)
	for i := range list {
		list[i].Text = own(list[i].Text)
	}
	toks = append(list, slices.Repeat([]api.Token{tok("q")}, 20)...)[:len(list)]
	names = api.Names{Vars: []string{own("yy"), own("t"), "spare", "room"}[:2], Arrays: []string{own("xx"), own("t"), "spare", "room"}[:2]}
	return memory, toks, names
}

// P2: what ParseAt, Print and Name answer is new memory: no text of it lies in a token's or a name's, and no two lists share any.
func TestNewMemory(t *testing.T) {
	memory, toks, names := given()
	whole := unsafe.String(&memory[0], len(memory))
	p, all, _, e := tree.ParseAt(toks, 0, names)
	if e != api.OK {
		t.Fatalf("ParseAt: %d", e)
	}
	for _, n := range p.Nodes {
		if shares(n.Str, whole) {
			t.Errorf("the text %q is the token's", n.Str)
		}
	}
	for _, name := range slices.Concat(all.Vars, all.Arrays) {
		if shares(name, whole) {
			t.Errorf("the name %q is the caller's", name)
		}
	}
	text, _ := tree.Print(api.Tree{Nodes: []api.Node{{Kind: api.NodeVar, Ref: 9}}}, names)
	name, _ := tree.Name(10, names)
	if text != "yy" || name != "t" || shares(text, whole) || shares(name, whole) {
		t.Errorf("Print and Name answer %q and %q, or the caller's memory", text, name)
	}
	wantVars, wantArrays := slices.Clone(all.Vars), slices.Clone(all.Arrays)
	all.Vars = append(all.Vars, slices.Repeat([]string{"new"}, cap(all.Vars)-len(all.Vars))...)
	if all.Arrays = all.Arrays[:cap(all.Arrays)]; !slices.Equal(all.Arrays[:len(wantArrays)], wantArrays) || slices.Contains(all.Arrays, "new") {
		t.Errorf("two lists of an answer share memory: %v", all)
	}
	all.Arrays = append(all.Arrays[:len(wantArrays)], "newer")
	if !slices.Equal(all.Vars[:len(wantVars)], wantVars) {
		t.Errorf("two lists of an answer share memory: %v", all)
	}
}

// P2: nothing of what is handed in is changed, its spare room neither; nor is it kept.
func TestGivenStays(t *testing.T) {
	memory, toks, names := given()
	before := fmt.Sprint(toks[:cap(toks)], names.Vars[:4], names.Arrays[:4])
	p, all, place, e := tree.ParseAt(toks, 0, names)
	text, f := tree.Print(p, all)
	_, _ = tree.Check(p)
	tree.Name(9, names)
	if after := fmt.Sprint(toks[:cap(toks)], names.Vars[:4], names.Arrays[:4]); after != before {
		t.Errorf("%s, then %s", before, after)
	}
	first := fmt.Sprint(p, all, place, e, text, f)
	for i := range memory {
		memory[i] = '?'
	}
	clear(toks[:cap(toks)])
	clear(names.Vars[:4])
	clear(names.Arrays[:4])
	if second := fmt.Sprint(p, all, place, e, text, f); second != first {
		t.Errorf("%s, then %s", first, second)
	}
	nodes := slices.Grow([]api.Node{v, num, {Kind: api.NodeAssign, N: 2}}, 8)
	held := fmt.Sprint(nodes[:cap(nodes)])
	for _, call := range []func(){
		func() { tree.Check(api.Tree{Nodes: nodes}) }, func() { tree.Depth(api.Tree{Nodes: nodes}) }, func() { tree.Print(api.Tree{Nodes: nodes}, api.Names{}) },
	} {
		if call(); fmt.Sprint(nodes[:cap(nodes)]) != held {
			t.Errorf("%s, then %v", held, nodes[:cap(nodes)])
		}
	}
}

// P2: the same calls answer the same, whatever was called ahead of them or beside them, and whatever is written into what they answered.
func TestNothingIsKept(t *testing.T) {
	want := answers()
	var group sync.WaitGroup
	for range 8 {
		group.Go(func() {
			for range 50 {
				if got := answers(); got != want {
					t.Errorf("%s, then %s", want, got)
				}
			}
		})
	}
	group.Wait()
}

// answers: what some calls answer; the lists are cleared behind that, their spare room too.
func answers() string {
	var out strings.Builder
	for _, s := range []string{script, "a = b", "a + ", "", "(a, b)", "a[1] in b", "$x++ y", "\"", strings.Repeat("(", 2000), strings.Repeat("! ", 300) + "x"} {
		p, names, at, e := tree.Parse(s)
		text, f := tree.Print(p, names)
		depth, g := tree.Depth(p)
		name, h := tree.Name(9, names)
		fmt.Fprintln(&out, p, names, at, e, text, f, depth, g, name, h)
		clear(p.Nodes[:cap(p.Nodes)])
		clear(names.Vars[:cap(names.Vars)])
		clear(names.Arrays[:cap(names.Arrays)])
	}
	return out.String()
}
