package tree_test

import (
	"slices"
	"strings"
	"testing"

	"abacus/api"
	"abacus/tree"
)

// wrongNames: lists of names, some right and some not.
func wrongNames() []api.Names {
	out := []api.Names{{}, {Vars: []string{}, Arrays: []string{}}}
	for _, list := range [][]string{
		{"x"}, {"x", "y"}, {"x", "x"}, {"x", "y", "x"}, {"x", "X"}, {"_"}, {"__9"}, {""}, {"x", ""}, {"9"}, {"9x"}, {"x y"}, {"x "}, {" x"}, {"x\n"}, {"x\x00"}, {"\xff"}, {"\u00e9"}, {"$x"}, {"x[1]"}, {"\"x\""}, {"in"}, {"In"}, {"length"}, {"lengths"}, {"print"}, {"printfs"}, {"BEGIN"}, {"begin"}, {"nr"}, {"NFS"},
		{"CONVFMT"}, {"OFMT"}, {"SUBSEP"}, {"FS"}, {"OFS"}, {"ORS"}, {"RS"}, {"NR"}, {"NF"}, {"x", "NF"}, {"NF", "NF"},
		someNames("v", 63), someNames("v", 64), someNames("v", 65), someNames("v", 246), someNames("v", 247), someNames("v", 248), someNames("v", 5000), append(someNames("v", 246), "v0"), append(someNames("v", 246), "v245"), append(someNames("v", 246), "NR"), append(someNames("v", 63), "v62"), append(someNames("v", 63), "if"), make([]string, 300), {strings.Repeat("x", 100000)}, {strings.Repeat("x", 100000) + "-"},
	} {
		out = append(out, api.Names{Vars: list}, api.Names{Arrays: list}, api.Names{Vars: list, Arrays: list}, api.Names{Vars: []string{"p"}, Arrays: list}, api.Names{Vars: list, Arrays: []string{"q"}})
	}
	return out
}

// P24.2, P24.4: names that aren't right are refused by each call that takes them, ahead of the other faults; right ones are not.
func TestWrongNames(t *testing.T) {
	toks := toksOf("; 1 + NR )")
	fine := 0
	for _, names := range wrongNames() {
		want := api.OK
		if !areRight(names) {
			want = api.ErrNames
		} else {
			fine++
		}
		place := 4
		if want != api.OK {
			place = 1
		}
		if _, _, at, e := tree.ParseAt(toks, 1, names); at != place || e != want {
			t.Errorf("ParseAt with %s: %d, %d, want %d, %d", brief(names), at, e, place, want)
		}
		for _, from := range []int{0, -7, 99, -1 << 63} {
			wrong := api.ErrSyntax
			if want != api.OK {
				wrong = want
			}
			if _, _, at, e := tree.ParseAt(toks, from, names); at != from || e != wrong {
				t.Errorf("ParseAt from %d with %s: %d, %d", from, brief(names), at, e)
			}
		}
		if text, e := tree.Print(api.Tree{Nodes: []api.Node{num}}, names); e != want || (e == api.OK) != (text == "0") {
			t.Errorf("Print with %s: %q, %d", brief(names), text, e)
		}
		if name, e := tree.Name(0, names); e != want || (e == api.OK) != (name == "CONVFMT") {
			t.Errorf("Name with %s: %q, %d", brief(names), name, e)
		}
	}
	if fine < 40 {
		t.Errorf("only %d of the names are right", fine)
	}
}

// P24.4: Name of every variable, and of those that have none.
func TestName(t *testing.T) {
	for _, vars := range [][]string{nil, {"x"}, {"x", "NRR"}, someNames("v", 247)} {
		all := slices.Concat(nine, vars)
		for _, i := range append([]int{-1, -9, 256, 257, 1 << 32, 1<<63 - 1, -1 << 63, -1<<63 + 9}, slices.Collect(func(yield func(int) bool) {
			for i := range 256 {
				if !yield(i) {
					return
				}
			}
		})...) {
			want, e := "", api.ErrNames
			if i >= 0 && i < len(all) {
				want, e = all[i], api.OK
			}
			if name, got := tree.Name(i, api.Names{Vars: vars, Arrays: []string{"a"}}); name != want || got != e {
				t.Errorf("Name(%d) with %d names = %q, %d, want %q, %d", i, len(vars), name, got, want, e)
			}
		}
	}
}

// P24.2, P24.3: which names are new, in which order, and which lists they come to.
func TestNewNames(t *testing.T) {
	given := api.Names{Vars: []string{"p", "x"}, Arrays: []string{"q", "x"}}
	for _, c := range []struct {
		s            string
		vars, arrays string // behind those that were given
	}{
		{"NR[x] + x[NR]", "", "NR"}, {"p + q", "q", ""}, {"p[q]", "q", "p"}, {"q[p]", "", ""}, {"y[z] = w", "z w", "y"}, {"z in y in w", "z", "y w"}, {"(z, y) in w", "z y", "w"}, {"split(z, y, w)", "z w", "y"}, {"split(z, y)", "z", "y"}, {"asort(z)", "", "z"}, {"sub(z, y, w)", "z y w", ""}, {"sub(z, y, w[v])", "z y v", "w"}, {"$z++ + --$y", "z y", ""}, {"z z[z] z", "z", "z"}, {"FS FS[1] CONVFMT OFMT SUBSEP OFS ORS RS NF", "", "FS"}, {"b a b a", "b a", ""}, {"length z", "z", ""}, {"y ? z : y", "y z", ""}, {"y [z]", "z", "y"}, {"y (z)", "y z", ""}, {"z ; y", "z", ""}, {"z ) y", "z", ""}, {"1 in z y", "", "z"},
	} {
		toks := lex(t, c.s)
		want := api.Names{Vars: append(slices.Clone(given.Vars), strings.Fields(c.vars)...), Arrays: append(slices.Clone(given.Arrays), strings.Fields(c.arrays)...)}
		if _, all, _, e := tree.ParseAt(toks, 0, given); e != api.OK || !same(all, want) {
			t.Errorf("ParseAt(%s): %v, %d, want %v", c.s, all, e, want)
		}
		hold(t, toks, 0, given)
		hold(t, toks, 0, api.Names{})
	}
}
