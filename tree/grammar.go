package tree

import (
	"strings"

	"abacus/api"
	"abacus/token"
)

// arithmetic: the marks of NodeBin by Op, and with = behind them those of NodeOpSet.
var arithmetic = [...]string{api.OpAdd: "+", api.OpSub: "-", api.OpMul: "*", api.OpDiv: "/", api.OpMod: "%", api.OpPow: "^"}

// relations: the marks of NodeRel by Op.
var relations = [...]string{api.LT: "<", api.LE: "<=", api.EQ: "==", api.NE: "!=", api.GT: ">", api.GE: ">="}

// arithmeticOf is the Op of a mark of NodeBin; 0 if it is none. (Place 0 of the marks is "", which is no mark.)
func arithmeticOf(mark string) int {
	for op, other := range arithmetic {
		if mark == other {
			return op
		}
	}
	return 0
}

// relationOf is the Op of a mark of NodeRel; 0 if it is none.
func relationOf(mark string) int {
	for op, other := range relations {
		if mark == other {
			return op
		}
	}
	return 0
}

// assignment is the node that a mark behind a target makes; of Kind 0 if it makes none.
func assignment(mark string) api.Node {
	sign, ok := strings.CutSuffix(mark, "=")
	switch op := arithmeticOf(sign); {
	case mark == "=":
		return api.Node{Kind: api.NodeAssign, N: 2}
	case ok && op != 0:
		return api.Node{Kind: api.NodeOpSet, Op: op, N: 2}
	}
	return api.Node{}
}

func (p *parser) expr() {
	from, open := p.at, p.open
	p.cond()
	if node := assignment(p.mark()); node.Kind != 0 && p.bare(from) {
		p.opens(p.mark())
		p.expr()
		p.put(node)
	}
	// The assignment's mark, or the condition's, was open up to here.
	p.open = open
}

func (p *parser) cond() {
	p.level(0)
	if p.mark() != "?" {
		return
	}
	p.opens("?")
	p.expr()
	p.wants(":")
	p.expr()
	p.put(api.Node{Kind: api.NodeCond, N: 3})
}

// level reads what binds as level i does, or closer.
func (p *parser) level(i int) {
	if i == len(p.levels) {
		p.unary()
		return
	}
	p.level(i + 1)
	for node := p.levels[i](); node.Kind != 0; node = p.levels[i]() {
		if node.N == 2 {
			p.level(i + 1)
		}
		p.put(node)
		if node.Kind == api.NodeRel {
			return
		}
	}
}

// The levels: each reads its mark, if that is next, and answers the node that it makes behind its operands; else one of Kind 0.

func (p *parser) or() api.Node {
	if p.takes("||") {
		return api.Node{Kind: api.NodeOr, N: 2}
	}
	return api.Node{}
}

func (p *parser) and() api.Node {
	if p.takes("&&") {
		return api.Node{Kind: api.NodeAnd, N: 2}
	}
	return api.Node{}
}

// in has one operand alone: what stands on its right is an array's name, which it reads too.
func (p *parser) in() api.Node {
	if p.kind() != api.TokKeyword {
		return api.Node{}
	}
	p.at++
	return api.Node{Kind: api.NodeIn, Ref: p.array(), N: 1}
}

func (p *parser) relation() api.Node {
	op := relationOf(p.mark())
	if op == 0 {
		return api.Node{}
	}
	p.at++
	return api.Node{Kind: api.NodeRel, Op: op, N: 2}
}

// cat has no mark: it goes on if something begins that can't be taken for an operation on what stands ahead.
func (p *parser) cat() api.Node {
	node := api.Node{Kind: api.NodeCat, N: 2}
	switch p.kind() {
	case api.TokNumber, api.TokString, api.TokName, api.TokFunc:
		return node
	}
	switch p.mark() {
	case "$", "(", "++", "--":
		return node
	}
	return api.Node{}
}

func (p *parser) sum() api.Node { return p.binary(api.OpAdd, api.OpSub) }

func (p *parser) product() api.Node { return p.binary(api.OpMul, api.OpMod) }

// binary reads a mark of arithmetic, if one with such an Op is next.
func (p *parser) binary(first int, last int) api.Node {
	op := arithmeticOf(p.mark())
	if !within(op, first, last) {
		return api.Node{}
	}
	p.at++
	return api.Node{Kind: api.NodeBin, Op: op, N: 2}
}

// unary reads the grammar's unary, and its powun too, since both have the same forms.
func (p *parser) unary() {
	kind := signOf(p.mark())
	if kind == 0 {
		p.power()
		return
	}
	p.at++
	p.unary()
	p.put(api.Node{Kind: kind, N: 1})
}

// signOf is the kind of node that a mark ahead of its operand makes; 0 if it makes none.
func signOf(mark string) int {
	switch mark {
	case "-":
		return api.NodeNeg
	case "+":
		return api.NodePos
	case "!":
		return api.NodeNot
	}
	return 0
}

func (p *parser) power() {
	p.post()
	if p.takes("^") {
		p.unary()
		p.put(api.Node{Kind: api.NodeBin, Op: api.OpPow, N: 2})
	}
}

func (p *parser) post() {
	if p.stepAhead() {
		return
	}
	from := p.at
	if p.mark() == "(" {
		p.brackets()
	} else {
		p.simple()
	}
	if !p.bare(from) {
		return
	}
	if op := stepOf(p.mark()); op != 0 {
		p.at++
		p.put(api.Node{Kind: api.NodeStep, Op: op + api.IncAfter - api.IncBefore, N: 1})
	}
}

// stepOf is the Op of a step whose mark stands ahead of the target; 0 if it is no such mark.
func stepOf(mark string) int {
	switch mark {
	case "++":
		return api.IncBefore
	case "--":
		return api.DecBefore
	}
	return 0
}

// stepAhead reads a step with its mark ahead of the target, if one is next, and tells whether it was.
func (p *parser) stepAhead() bool {
	op := stepOf(p.mark())
	if op == 0 {
		return false
	}
	p.at++
	p.readTarget()
	p.put(api.Node{Kind: api.NodeStep, Op: op, N: 1})
	return true
}

// brackets reads an expression in brackets, or several that are sought in an array.
func (p *parser) brackets() {
	p.opens("(")
	count := p.list(1, many)
	p.closes(")")
	if count == 1 {
		return
	}
	if p.kind() != api.TokKeyword {
		p.giveUp(api.ErrSyntax)
	}
	node := p.in()
	node.N = count
	p.put(node)
}

// list reads expressions with commas between them, at least and at most so many, and answers how many.
func (p *parser) list(least int, most int) int {
	p.expr()
	count := 1
	for count < most && (count < least || p.mark() == ",") {
		p.wants(",")
		p.expr()
		count++
	}
	return count
}

// simple reads what both a $ and any other operation may stand over, but for brackets.
func (p *parser) simple() {
	t := p.token(0)
	switch p.kind() {
	case api.TokNumber:
		p.at++
		p.put(api.Node{Kind: api.NodeNum, Num: t.Num})
	case api.TokString:
		p.at++
		p.put(api.Node{Kind: api.NodeStr, Str: t.Text})
	case api.TokFunc:
		p.at++
		p.call(token.Func(t.Text))
	default:
		p.readTarget()
	}
}

func (p *parser) readTarget() {
	from := p.at
	switch {
	case p.takes("$"):
		p.field()
	case markOf(p.token(1)) == "[":
		p.element()
	default:
		p.put(api.Node{Kind: api.NodeVar, Ref: p.variable()})
	}
	p.target = span{from, p.at}
}

// field reads what stands behind a $.
func (p *parser) field() {
	switch {
	case p.stepAhead():
	case p.mark() == "(":
		p.opens("(")
		p.expr()
		p.closes(")")
	default:
		p.simple()
	}
	p.put(api.Node{Kind: api.NodeField, N: 1})
}

func (p *parser) element() {
	array := p.array()
	p.opens("[")
	count := p.list(1, many)
	p.closes("]")
	p.put(api.Node{Kind: api.NodeElem, Ref: array, N: count})
}

// call reads a function's arguments; its name is read already.
func (p *parser) call(function int) {
	node := api.Node{Kind: api.NodeCall, Op: function}
	if function == api.FnLength && p.mark() != "(" {
		p.record()
		node.N = 1
	} else {
		p.opens("(")
		node.Ref, node.N = p.arguments(function)
		p.closes(")")
	}
	p.put(node)
}

// arguments reads those of a function, with what stands for those that are left out; it answers the array's number, if there is one, and the number of kids.
func (p *parser) arguments(function int) (int, int) {
	switch function {
	case api.FnLength:
		p.orRecord(p.mark() != ")", p.expr)
		return 0, 1
	case api.FnSplit:
		return p.splitting(), 2
	case api.FnSub, api.FnGsub:
		p.list(2, 2)
		p.orRecord(p.takes(","), p.readTarget)
		return 0, 3
	case api.FnAsort:
		return p.array(), 0
	}
	r := callRule(function)
	return 0, p.list(r.least, r.most)
}

// orRecord reads an argument, or puts $0 if it isn't given.
func (p *parser) orRecord(given bool, read func()) {
	if given {
		read()
	} else {
		p.record()
	}
}

// record puts $0, for an argument that isn't given.
func (p *parser) record() {
	p.put(api.Node{Kind: api.NodeNum})
	p.put(api.Node{Kind: api.NodeField, N: 1})
}

// splitting reads split's arguments, and answers the array's number.
func (p *parser) splitting() int {
	p.expr()
	p.wants(",")
	array := p.array()
	if p.takes(",") {
		p.expr()
	} else {
		p.put(api.Node{Kind: api.NodeVar, Ref: api.VarFs})
	}
	return array
}
