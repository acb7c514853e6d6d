package walk_test

import (
	"math"
	"slices"
	"strconv"
	"strings"
	"testing"

	"abacus/api"
	"abacus/chars"
	"abacus/gather"
	"abacus/record"
	"abacus/relate"
	"abacus/spell"
	"abacus/store"
	"abacus/tree"
	"abacus/value"
)

// kept is what a walked node leaves for the node above it: a value; for a target its node, with a field's number or an element's key.
type kept struct {
	v   api.Value
	at  api.Node
	key string
}

// model carries out a tree as the chapter tells it, but by going through its nodes from the first to the last with a row of what they left; kids that aren't walked are jumped over.
type model struct {
	nodes []api.Node
	above []int // the node to which each is a kid; -1 of the root
	which []int // the how manieth kid it is, from 0 on
	ends  []int // where the kid behind it has its root
	s     *store.Store
	row   []kept
}

// link fills in above, which and ends.
func (m *model) link() {
	count := len(m.nodes)
	m.above, m.which, m.ends = make([]int, count), make([]int, count), make([]int, count)
	m.above[count-1] = -1
	begins := make([]int, count)
	for i, n := range m.nodes {
		begins[i] = i
		next := 0
		for k := n.N - 1; k >= 0; k-- {
			kid := begins[i] - 1
			m.above[kid], m.which[kid], m.ends[kid] = i, k, next
			begins[i], next = begins[kid], kid
		}
	}
}

// run: the answer, the error; the store is changed.
func (m *model) run() (v api.Value, e api.Errno) {
	defer func() {
		if given := recover(); given != nil {
			v, e = api.Value{}, given.(api.Errno)
		}
	}()
	m.link()
	for i := 0; i < len(m.nodes); i++ {
		n := m.nodes[i]
		from := len(m.row) - n.N
		kids := slices.Clone(m.row[from:])
		var left kept
		if m.isTarget(i) {
			left = m.target(n, kids)
		} else {
			left.v = m.value(n, kids)
		}
		m.row = append(m.row[:from], left)
		if m.jumps(i) {
			i = m.ends[i]
			m.row = append(m.row, kept{})
		}
	}
	return m.row[0].v, api.OK
}

// jumps: whether the kid behind this one isn't walked.
func (m *model) jumps(i int) bool {
	if m.above[i] < 0 {
		return false
	}
	truth := value.Truth(m.row[len(m.row)-1].v)
	switch m.nodes[m.above[i]].Kind {
	case api.NodeAnd:
		return m.which[i] == 0 && !truth
	case api.NodeOr:
		return m.which[i] == 0 && truth
	case api.NodeCond:
		// A second kid that was walked was the one to take.
		return m.which[i] == 0 && !truth || m.which[i] == 1
	}
	return false
}

// isTarget: whether the node above writes to this one.
func (m *model) isTarget(i int) bool {
	if m.above[i] < 0 {
		return false
	}
	switch n := m.nodes[m.above[i]]; n.Kind {
	case api.NodeAssign, api.NodeOpSet, api.NodeStep:
		return m.which[i] == 0
	case api.NodeCall:
		return (n.Op == api.FnSub || n.Op == api.FnGsub) && m.which[i] == 2
	}
	return false
}

// must ends the run with an error.
func must(e api.Errno) {
	if e != api.OK {
		panic(e)
	}
}

// sure: a value without an error.
func sure[T any](v T, e api.Errno) T {
	must(e)
	return v
}

func (m *model) text(v api.Value) string {
	return sure(value.ToStr(v, sure(m.s.Setting(api.VarConvfmt))))
}

func (m *model) key(kids []kept) string {
	var texts []string
	for _, k := range kids {
		texts = append(texts, m.text(k.v))
	}
	if len(texts) == 1 {
		return texts[0]
	}
	return sure(chars.Join(texts, sure(m.s.Setting(api.VarSubsep))))
}

// target: what a node that is written to leaves.
func (m *model) target(n api.Node, kids []kept) kept {
	switch n.Kind {
	case api.NodeField:
		return kept{v: kids[0].v, at: n}
	case api.NodeElem:
		return kept{key: m.key(kids), at: n}
	}
	return kept{at: n}
}

// place: the field that a value's number names.
func place(v api.Value) int {
	d := math.Trunc(math.Float64frombits(value.ToNum(v)))
	if d >= 0 && d <= last {
		return int(d)
	}
	panic(api.ErrField)
}

// get reads a target.
func (m *model) get(k kept) api.Value {
	switch k.at.Kind {
	case api.NodeField:
		return sure(m.s.Field(place(k.v)))
	case api.NodeElem:
		return sure(m.s.Elem(k.at.Ref, k.key))
	}
	return sure(m.s.Var(k.at.Ref))
}

// put writes a target, and answers what it wrote.
func (m *model) put(k kept, v api.Value) api.Value {
	switch k.at.Kind {
	case api.NodeField:
		must(m.s.SetField(place(k.v), v))
	case api.NodeElem:
		must(m.s.SetElem(k.at.Ref, k.key, v))
	default:
		must(m.s.SetVar(k.at.Ref, v))
	}
	return v
}

// float: the number of a value on the host.
func float(v api.Value) float64 { return math.Float64frombits(value.ToNum(v)) }

func truth(yes bool) api.Value {
	if yes {
		return num(1)
	}
	return num(0)
}

func count(n int) api.Value { return num(float64(n)) }

// value: what a node makes of what its kids left.
func (m *model) value(n api.Node, kids []kept) api.Value {
	v := func(i int) api.Value { return kids[i].v }
	switch n.Kind {
	case api.NodeNum:
		return pattern(n.Num)
	case api.NodeStr:
		return str(n.Str)
	case api.NodeVar, api.NodeField, api.NodeElem:
		return m.get(m.target(n, kids))
	case api.NodeIn:
		return truth(sure(m.s.Has(n.Ref, m.key(kids))))
	case api.NodeNeg:
		return pattern(value.ToNum(v(0)) ^ api.Sign)
	case api.NodePos:
		return pattern(value.ToNum(v(0)))
	case api.NodeNot:
		return truth(!value.Truth(v(0)))
	case api.NodeBin:
		return sure(figured(n.Op, float(v(0)), float(v(1))))
	case api.NodeCat:
		return str(sure(chars.Cat(m.text(v(0)), m.text(v(1)))))
	case api.NodeRel:
		return truth(sure(relate.Holds(n.Op, v(0), v(1), sure(m.s.Setting(api.VarConvfmt)))))
	case api.NodeAnd:
		return truth(value.Truth(v(0)) && value.Truth(v(1)))
	case api.NodeOr:
		return truth(value.Truth(v(0)) || value.Truth(v(1)))
	case api.NodeCond:
		if value.Truth(v(0)) {
			return v(1)
		}
		return v(2)
	case api.NodeAssign:
		return m.put(kids[0], v(1))
	case api.NodeOpSet:
		return m.put(kids[0], sure(figured(n.Op, float(m.get(kids[0])), float(v(1)))))
	case api.NodeStep:
		old := pattern(value.ToNum(m.get(kids[0])))
		by := []float64{1, -1, 1, -1}[n.Op-1]
		return []api.Value{m.put(kids[0], num(float(old)+by)), old}[(n.Op-1)/2]
	}
	return m.call(n, kids)
}

// call: what a function makes of what its kids left.
func (m *model) call(n api.Node, kids []kept) api.Value {
	text := func(i int) string { return m.text(kids[i].v) }
	bitsOf := func(i int) uint64 { return value.ToNum(kids[i].v) }
	switch n.Op {
	case api.FnLength:
		return count(len(text(0)))
	case api.FnSubstr:
		if n.N == 2 {
			return str(chars.From(text(0), bitsOf(1)))
		}
		return str(chars.Substr(text(0), bitsOf(1), bitsOf(2)))
	case api.FnIndex:
		first, second := text(0), text(1)
		return count(strings.Index(first, second) + 1)
	case api.FnSprintf:
		var vals []api.Value
		for _, k := range kids[1:] {
			vals = append(vals, k.v)
		}
		return str(sure(spell.Sprintf(sure(m.s.Setting(api.VarConvfmt)), text(0), vals...)))
	case api.FnToupper:
		return str(chars.Upper(text(0)))
	case api.FnTolower:
		return str(chars.Lower(text(0)))
	case api.FnInt:
		return num(math.Trunc(float(kids[0].v)))
	case api.FnSqrt:
		return num(math.Sqrt(float(kids[0].v)))
	case api.FnSum:
		var list []uint64
		for i := range kids {
			list = append(list, bitsOf(i))
		}
		return pattern(gather.Sum(list))
	case api.FnSplit:
		first, second := text(0), text(1)
		return m.fill(n.Ref, record.Fields(first, second), value.Input)
	case api.FnAsort:
		return m.sort(n.Ref)
	}
	old, with := text(0), text(1)
	most := []int{1, -1}[n.Op-api.FnSub]
	made, times, e := chars.Replace(m.text(m.get(kids[2])), old, with, most)
	must(e)
	if times > 0 {
		m.put(kids[2], str(made))
	}
	return count(times)
}

// fill: an array holds what is made of these texts alone.
func (m *model) fill(array int, parts []string, of func(string) api.Value) api.Value {
	var vals []api.Value
	for _, part := range parts {
		vals = append(vals, of(part))
	}
	m.s.Wipe(array)
	for i, v := range vals {
		m.s.SetElem(array, strconv.Itoa(i+1), v)
	}
	return count(len(vals))
}

// sort: an array holds its values in order.
func (m *model) sort(array int) api.Value {
	keys, _ := m.s.Keys(array)
	of := func(key string) api.Value { return sure(m.s.Elem(array, key)) }
	slices.SortStableFunc(keys, func(p string, q string) int { return relate.Order(of(p), of(q)) })
	return m.fill(array, keys, of)
}

// drawText: a short text, which may look like a number, a format or a field's separator.
func drawText(seed *uint64) string {
	return pick(seed, "", "0", "1", "2", "10", " 3 ", "0.5", "-1", "1e3", "a", "b", "ab", "aab", "a b a", "-", ",", "1,2,a", " ", "x y z", "%s", "%d|%s", "%.2f", "%c%%", "5%", "\x00\xff", "nan", "3x")
}

// drawNumber: a number as it stands in scripts, now and then a strange one.
func drawNumber(seed *uint64) float64 {
	if between(seed, 0, 19) == 0 {
		return pick(seed, math.NaN(), math.Inf(1), math.Inf(-1), math.Copysign(0, -1), 1e300, -1e300, 1<<53, 1<<63, 5e-324, last, last+1, 1025)
	}
	return float64(between(seed, -4, 12)) / pick(seed, 1.0, 1, 1, 1, 2, 10)
}

// drawValue: a value of any kind.
func drawValue(seed *uint64) api.Value {
	text := drawText(seed)
	return pick(seed, none, num(drawNumber(seed)), num(drawNumber(seed)), str(text), value.Input(text), strnum(drawNumber(seed), text))
}

// drawVariable: a variable of the script's own, or one that has a meaning.
func drawVariable(seed *uint64) int {
	return pick(seed, x, x, x, y, y, z, api.VarNf, api.VarNf, api.VarConvfmt, api.VarSubsep, api.VarFs, api.VarOfs, api.VarNr)
}

// drawState: a state with values for the variables that are drawn, two arrays and a record.
func drawState(seed *uint64) api.State {
	s := store.New()
	s.SetVar(api.VarConvfmt, pick(seed, str("%.6g"), str("%.6g"), str("%.2f"), str("<%.1e>"), str("%d"), num(0.5), none))
	s.SetVar(api.VarSubsep, pick(seed, str("\x1c"), str("\x1c"), str("-"), str(""), num(0.5)))
	s.SetVar(api.VarFs, pick(seed, str(" "), str(" "), str(","), str(""), num(1)))
	s.SetVar(api.VarOfs, pick(seed, str(" "), str(" "), str("-"), num(0.25)))
	for i := x; i <= z; i++ {
		s.SetVar(i, drawValue(seed))
	}
	for array := range 2 {
		for range between(seed, 0, 4) {
			s.SetElem(array, pick(seed, "", "1", "2", "0.5", "a", "1\x1c2"), drawValue(seed))
		}
	}
	s.SetField(0, str(pick(seed, "", "10 abc", "a,b 3", "  1 2  a ", "x")))
	if between(seed, 0, 2) == 0 {
		s.SetField(between(seed, 1, 4), drawValue(seed))
	}
	return s.Dump()
}

// drawTarget: a target of so many levels at most.
func drawTarget(seed *uint64, levels int) []api.Node {
	if levels > 1 {
		switch between(seed, 0, 3) {
		case 0:
			number := pick(seed, numNode(0), numNode(1), numNode(1), numNode(2), numNode(3), varNode(api.VarNf), drawTree(seed, levels-1))
			return over(api.Node{Kind: api.NodeField}, number)
		case 1:
			return over(api.Node{Kind: api.NodeElem, Ref: between(seed, 0, 1)}, drawTrees(seed, levels-1, pick(seed, 1, 1, 1, 2))...)
		}
	}
	return varNode(drawVariable(seed))
}

// drawTrees: so many trees.
func drawTrees(seed *uint64, levels int, count int) [][]api.Node {
	var list [][]api.Node
	for range count {
		list = append(list, drawTree(seed, levels-between(seed, 0, 1)))
	}
	return list
}

// drawTree: a tree of so many levels at most.
func drawTree(seed *uint64, levels int) []api.Node {
	if levels <= 1 {
		return pick(seed, numNode(drawNumber(seed)), strNode(drawText(seed)), varNode(drawVariable(seed)), varNode(drawVariable(seed)))
	}
	below := func(count int) [][]api.Node { return drawTrees(seed, levels-1, count) }
	n := api.Node{Kind: between(seed, api.NodeVar, api.NodeCall)}
	switch n.Kind {
	case api.NodeVar, api.NodeField, api.NodeElem:
		return drawTarget(seed, levels)
	case api.NodeIn:
		n.Ref = between(seed, 0, 1)
		return over(n, below(between(seed, 1, 2))...)
	case api.NodeNeg, api.NodePos, api.NodeNot:
		return over(n, below(1)...)
	case api.NodeCond:
		return over(n, below(3)...)
	case api.NodeAssign, api.NodeOpSet:
		if n.Kind == api.NodeOpSet {
			n.Op = drawOperator(seed)
		}
		return over(n, drawTarget(seed, levels-1), below(1)[0])
	case api.NodeStep:
		n.Op = between(seed, api.IncBefore, api.DecAfter)
		return over(n, drawTarget(seed, levels-1))
	case api.NodeCall:
		return drawCall(seed, levels)
	case api.NodeBin:
		n.Op = drawOperator(seed)
	case api.NodeRel:
		n.Op = between(seed, api.LT, api.GE)
	}
	return over(n, below(2)...)
}

// drawOperator: an operator, now and then one that may be refused.
func drawOperator(seed *uint64) int {
	return pick(seed, api.OpAdd, api.OpAdd, api.OpSub, api.OpSub, api.OpMul, api.OpMul, api.OpDiv, api.OpMod, api.OpPow)
}

// drawCall: a call of a function.
func drawCall(seed *uint64, levels int) []api.Node {
	n := api.Node{Kind: api.NodeCall, Op: between(seed, api.FnLength, api.FnAsort)}
	below := func(count int) [][]api.Node { return drawTrees(seed, levels-1, count) }
	switch n.Op {
	case api.FnSubstr:
		return over(n, below(between(seed, 2, 3))...)
	case api.FnSprintf:
		format := pick(seed, strNode(drawText(seed)), strNode("%s|%d"), strNode(pick(seed, "%", "%y", "%c%5.1f")), below(1)[0])
		return over(n, append([][]api.Node{format}, below(between(seed, 0, 3))...)...)
	case api.FnSum:
		return over(n, below(between(seed, 1, 4))...)
	case api.FnIndex:
		return over(n, below(2)...)
	case api.FnSplit:
		n.Ref = between(seed, 0, 1)
		return over(n, below(2)...)
	case api.FnAsort:
		n.Ref = between(seed, 0, 1)
		return over(n)
	case api.FnSub, api.FnGsub:
		return over(n, below(1)[0], below(1)[0], drawTarget(seed, levels-1))
	}
	return over(n, below(1)...)
}

// P25.1, P25.2: drawn trees over drawn states give what the model gives.
func TestDrawn(t *testing.T) {
	seed := uint64(25)
	ends, kinds := map[api.Errno]int{}, map[int]int{}
	for range 60000 {
		e := api.Tree{Nodes: drawTree(&seed, between(&seed, 2, 6))}
		if _, err := tree.Check(e); err != api.OK {
			t.Fatalf("%s was drawn: error %d", brief(e), err)
		}
		st := drawState(&seed)
		s, _ := store.Load(st)
		after, _ := store.Load(st)
		m := &model{nodes: e.Nodes, s: after}
		v, err := m.run()
		hold(t, []any{e, st}, e, s, v, err, after)
		ends[err]++
		kinds[v.Kind]++
	}
	for _, e := range []api.Errno{api.OK, api.ErrConv, api.ErrField, api.ErrDivide, api.ErrPower, api.ErrFew, api.ErrVerb, api.ErrEnds} {
		if ends[e] < 20 {
			t.Errorf("error %d came %d times", e, ends[e])
		}
	}
	if ends[api.OK] < 40000 {
		t.Errorf("%d trees had a value", ends[api.OK])
	}
	for kind := api.KindNone; kind <= api.KindStrnum; kind++ {
		if kinds[kind] < 500 {
			t.Errorf("a value of kind %d came %d times", kind, kinds[kind])
		}
	}
}
