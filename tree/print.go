package tree

import (
	"strings"

	"abacus/api"
	"abacus/token"
)

// called: the functions' names by their numbers.
var called = [...]string{
	api.FnLength: "length", api.FnSubstr: "substr", api.FnIndex: "index", api.FnSprintf: "sprintf", api.FnSplit: "split", api.FnInt: "int", api.FnSqrt: "sqrt",
	api.FnToupper: "toupper", api.FnTolower: "tolower", api.FnSub: "sub", api.FnGsub: "gsub", api.FnSum: "sum", api.FnAsort: "asort",
}

// writer writes the nodes of a tree as a text.
type writer struct {
	nodes  []api.Node
	starts []int // the place at which each node's subtree begins
	names  api.Names
	out    strings.Builder
	long   bool // the text would be too long: nothing more is written
}

// formless is the error of a node that has no form; OK if it has one.
func (w *writer) formless(n api.Node) api.Errno {
	fault := api.OK
	switch {
	case n.Kind == api.NodeNum:
		if _, ok := token.Number(n.Num); !ok {
			fault = api.ErrTree
		}
	case n.Kind == api.NodeVar && variableName(n.Ref, w.names) == "", hasArray(n) && entry(w.names.Arrays, n.Ref) == "":
		fault = api.ErrNames
	}
	return fault
}

// hasArray tells whether a node's Ref is an array.
func hasArray(n api.Node) bool {
	switch n.Kind {
	case api.NodeElem, api.NodeIn:
		return true
	case api.NodeCall:
		return n.Op == api.FnSplit || n.Op == api.FnAsort
	}
	return false
}

// starts tells for each node of a tree the place at which its subtree begins.
func starts(nodes []api.Node) []int {
	out := make([]int, len(nodes))
	for i, n := range nodes {
		out[i] = i
		for range n.N {
			// The kid that ends right ahead of what has been gone through.
			out[i] = out[out[i]-1]
		}
	}
	return out
}

// kids are the places of a node's kids, the first kid first.
func (w *writer) kids(i int) []int {
	out := make([]int, w.nodes[i].N)
	next := i - 1
	for k := len(out) - 1; k >= 0; k-- {
		out[k] = next
		next = w.starts[next] - 1
	}
	return out
}

// write writes the subtree whose root stands at place i.
func (w *writer) write(i int) {
	if w.long {
		return
	}
	n := w.nodes[i]
	ahead, between, behind := w.form(n)
	w.add(ahead)
	for k, kid := range w.kids(i) {
		if n.Kind == api.NodeCond && k == 2 {
			between = " : "
		}
		if k > 0 {
			w.add(between)
		}
		w.write(kid)
	}
	w.add(behind)
}

// add writes a text, if the whole doesn't grow too long by it.
func (w *writer) add(text string) {
	if w.room(len(text)) {
		w.out.WriteString(text)
	}
}

// room tells whether so many bytes more may be written; if not, that's the end of the writing.
func (w *writer) room(count int) bool {
	w.long = w.long || count > api.MaxText-w.out.Len()
	return !w.long
}

// form is what stands ahead of a node's kids, between each two of them (of a condition's, the first two) and behind them.
func (w *writer) form(n api.Node) (ahead string, between string, behind string) {
	switch n.Kind {
	case api.NodeNum:
		ahead, _ = token.Number(n.Num)
	case api.NodeStr:
		ahead = w.quoted(n.Str)
	case api.NodeVar:
		ahead = variableName(n.Ref, w.names)
	case api.NodeField:
		ahead = "$"
	case api.NodeElem:
		ahead, between, behind = entry(w.names.Arrays, n.Ref)+"[", ", ", "]"
	case api.NodeCall:
		ahead, between, behind = w.callForm(n)
	default:
		ahead, between, behind = w.operation(n)
		ahead, behind = "("+ahead, behind+")"
	}
	return ahead, between, behind
}

// quoted is a text in quotes; nothing if that would be too long, which is asked ahead since a text has no limit.
func (w *writer) quoted(text string) string {
	if !w.room(len(text)) {
		return ""
	}
	return token.Quote(text)
}

// callForm is the form of a call.
func (w *writer) callForm(n api.Node) (ahead string, between string, behind string) {
	ahead, between, behind = called[n.Op]+"(", ", ", ")"
	switch n.Op {
	case api.FnSplit:
		between = ", " + entry(w.names.Arrays, n.Ref) + ", "
	case api.FnAsort:
		ahead += entry(w.names.Arrays, n.Ref)
	}
	return ahead, between, behind
}

// operation is the form of a node that stands in brackets, without these.
func (w *writer) operation(n api.Node) (ahead string, between string, behind string) {
	switch n.Kind {
	case api.NodeIn:
		return w.inForm(n)
	case api.NodeNeg:
		ahead = "-"
	case api.NodePos:
		ahead = "+"
	case api.NodeNot:
		ahead = "!"
	case api.NodeBin:
		between = " " + arithmetic[n.Op] + " "
	case api.NodeCat:
		between = " "
	case api.NodeRel:
		between = " " + relations[n.Op] + " "
	case api.NodeAnd:
		between = " && "
	case api.NodeOr:
		between = " || "
	case api.NodeCond:
		between = " ? "
	case api.NodeAssign:
		between = " = "
	case api.NodeOpSet:
		between = " " + arithmetic[n.Op] + "= "
	case api.NodeStep:
		return stepForm(n.Op)
	}
	return ahead, between, behind
}

// inForm is the form of a node that seeks its kids in an array, without its brackets.
func (w *writer) inForm(n api.Node) (ahead string, between string, behind string) {
	behind = " in " + entry(w.names.Arrays, n.Ref)
	if n.N == 1 {
		return "", "", behind
	}
	return "(", ", ", ")" + behind
}

// stepForm is the form of a step, without its brackets.
func stepForm(op int) (ahead string, between string, behind string) {
	mark := "++"
	if op == api.DecBefore || op == api.DecAfter {
		mark = "--"
	}
	if op == api.IncAfter || op == api.DecAfter {
		return "", "", mark
	}
	return mark, "", ""
}
