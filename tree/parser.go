package tree

import (
	"slices"
	"strings"

	"abacus/api"
	"abacus/token"
)

// span: the places of some tokens, from the first to behind the last.
type span struct {
	from int
	to   int
}

// parser reads an expression from the left, by the next token alone. What it makes is a node behind its kids'.
type parser struct {
	toks   []api.Token // all that may be seen; behind them is an end
	at     int         // the token that is read next
	open   int         // brackets, assignments and conditions that are open here
	nodes  []api.Node
	names  api.Names
	target span // of the target that was read last
	levels [7]func() api.Node
}

func newParser(toks []api.Token, names api.Names) *parser {
	p := &parser{toks: toks, names: api.Names{Vars: copied(names.Vars), Arrays: copied(names.Arrays)}}
	p.levels = [...]func() api.Node{p.or, p.and, p.in, p.relation, p.cat, p.sum, p.product}
	return p
}

// window is what an expression that begins at token from may see; nothing if from is no place of the list.
func window(toks []api.Token, from int) []api.Token {
	if from < 0 || from > len(toks) {
		return nil
	}
	return toks[from:min(len(toks), from+api.MaxToks)]
}

// ownTexts gives nodes texts of their own, instead of the tokens'.
func ownTexts(nodes []api.Node) {
	for i, n := range nodes {
		nodes[i].Str = strings.Clone(n.Str)
	}
}

// fault: what a parser gives up with.
type fault struct {
	at int
	e  api.Errno
}

// giveUp ends the reading, at the token that is read next.
func (p *parser) giveUp(e api.Errno) { panic(fault{p.at, e}) }

// told is the fault that a parser gave up with.
func told(given any) fault {
	f, ok := given.(fault)
	if !ok {
		panic(given)
	}
	return f
}

// put makes a node. Its kids are there already.
func (p *parser) put(n api.Node) { p.nodes = append(p.nodes, n) }

// token is the one that stands so many places ahead.
func (p *parser) token(ahead int) api.Token {
	if p.at+ahead < len(p.toks) {
		return p.toks[p.at+ahead]
	}
	return api.Token{Kind: api.TokEnd}
}

// kind is the kind of the next token: a name, a function or a word that is none counts as an end.
func (p *parser) kind() int {
	t := p.token(0)
	fine := true
	switch t.Kind {
	case api.TokName:
		fine = token.Word(t.Text) == api.TokName
	case api.TokFunc:
		fine = token.Func(t.Text) != 0
	case api.TokKeyword:
		fine = t.Text == "in"
	}
	if !fine {
		return api.TokEnd
	}
	return t.Kind
}

// mark is the mark that the next token is; "" if it is none.
func (p *parser) mark() string { return markOf(p.token(0)) }

func markOf(t api.Token) string {
	if t.Kind == api.TokOp {
		return t.Text
	}
	return ""
}

// takes reads the mark, if it is next, and tells whether it was.
func (p *parser) takes(mark string) bool {
	if p.mark() != mark {
		return false
	}
	p.at++
	return true
}

// wants reads the mark, which must be next.
func (p *parser) wants(mark string) {
	if !p.takes(mark) {
		p.giveUp(api.ErrSyntax)
	}
}

// opens reads the mark, which must be next and stays open.
func (p *parser) opens(mark string) {
	if p.mark() != mark {
		p.giveUp(api.ErrSyntax)
	}
	if p.open == api.MaxOpen {
		p.giveUp(api.ErrDepth)
	}
	p.open++
	p.at++
}

// closes reads the mark, which must be next, and which closes what was opened last.
func (p *parser) closes(mark string) {
	p.wants(mark)
	p.open--
}

// bare tells whether all that was read from a place on is a target.
func (p *parser) bare(from int) bool { return p.target == span{from, p.at} }

// array reads an array's name, and answers its number.
func (p *parser) array() int { return p.numbered(&p.names.Arrays, api.MaxArrays) }

// variable reads a variable's name, and answers its number.
func (p *parser) variable() int {
	if i := ownNumber(p.name()); i >= 0 {
		p.at++
		return i
	}
	return api.VarFirst + p.numbered(&p.names.Vars, maxOwn)
}

// numbered reads a name, and answers its place in a list that can hold so many: at the list's end, if it is new.
func (p *parser) numbered(list *[]string, most int) int {
	name := p.name()
	i := slices.Index(*list, name)
	if i < 0 {
		i = len(*list)
		if i == most {
			p.giveUp(api.ErrNames)
		}
		*list = append(*list, strings.Clone(name))
	}
	p.at++
	return i
}

// name is the name that must be next. It isn't read yet.
func (p *parser) name() string {
	if p.kind() != api.TokName {
		p.giveUp(api.ErrSyntax)
	}
	return p.token(0).Text
}
