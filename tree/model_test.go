package tree_test

import (
	"slices"
	"strconv"
	"strings"

	"abacus/api"
	"abacus/token"
)

// grammar: the document's, with what begins alike drawn together, so that the next token alone decides. In < > stand what else must hold for a part to go on.
const grammar = `
expr   := cond [ <target> ( "=" | "+=" | "-=" | "*=" | "/=" | "%=" | "^=" ) expr ]
cond   := or [ "?" expr ":" expr ]
or     := and { "||" and }
and    := memb { "&&" memb }
memb   := rel { "in" NAME }
rel    := cat [ ( "<" | "<=" | "==" | "!=" | ">" | ">=" ) cat ]
cat    := add { <begins> add }
add    := mul { ( "+" | "-" ) mul }
mul    := unary { ( "*" | "/" | "%" ) unary }
unary  := ( "!" | "-" | "+" ) unary | pow
pow    := post [ "^" powun ]
powun  := ( "!" | "-" | "+" ) powun | pow
post   := ( "++" | "--" ) target | prim [ <target> ( "++" | "--" ) ]
prim   := NUMBER | TEXT | target | call | "(" expr ( ")" | "," expr { "," expr } ")" "in" NAME )
target := NAME [ "[" expr { "," expr } "]" ] | "$" fprim
fprim  := ( "++" | "--" ) target | NUMBER | TEXT | target | call | "(" expr ")"
call   := "length" [ "(" [ expr ] ")" ] | "substr" "(" expr "," expr [ "," expr ] ")" | "index" "(" expr "," expr ")" | "sprintf" "(" expr { "," expr } ")" | "split" "(" expr "," NAME [ "," expr ] ")" | "int" "(" expr ")" | "sqrt" "(" expr ")" | "toupper" "(" expr ")" | "tolower" "(" expr ")" | "sub" "(" expr "," expr [ "," target ] ")" | "gsub" "(" expr "," expr [ "," target ] ")" | "sum" "(" expr { "," expr } ")" | "asort" "(" NAME ")"
`

// form: a part of the grammar: a word (a rule, a token, or what must hold), or several forms in a row ('s'), one of several ('|'), one or none ('['), or any number ('{').
type form struct {
	kind  byte
	word  string
	parts []*form
	rule  *form           // the rule that a word names
	first map[string]bool // with which tokens it can begin, by their symbols
}

// rules: the grammar's rules by their names.
var rules = readGrammar()

func readGrammar() map[string]*form {
	out := map[string]*form{}
	for _, line := range strings.Split(strings.TrimSpace(grammar), "\n") {
		words := strings.Fields(line)
		rest := words[2:]
		out[words[0]] = readAlternatives(&rest)
	}
	for _, f := range out {
		settle(f, out)
	}
	return out
}

func readAlternatives(rest *[]string) *form {
	out := &form{kind: '|', parts: []*form{readRow(rest)}}
	for len(*rest) > 0 && (*rest)[0] == "|" {
		*rest = (*rest)[1:]
		out.parts = append(out.parts, readRow(rest))
	}
	return out
}

func readRow(rest *[]string) *form {
	out := &form{kind: 's'}
	for len(*rest) > 0 && !slices.Contains([]string{"|", ")", "]", "}"}, (*rest)[0]) {
		first := (*rest)[0]
		*rest = (*rest)[1:]
		if !slices.Contains([]string{"(", "[", "{"}, first) {
			out.parts = append(out.parts, &form{kind: 'w', word: first})
			continue
		}
		inner := readAlternatives(rest)
		*rest = (*rest)[1:]
		if first != "(" {
			inner = &form{kind: first[0], parts: []*form{inner}}
		}
		out.parts = append(out.parts, inner)
	}
	return out
}

// settle: notes the rule that each word of a form names, and with what each form can begin.
func settle(f *form, all map[string]*form) {
	f.rule = all[f.word]
	f.first = map[string]bool{}
	begin(f, all, f.first)
	for _, one := range f.parts {
		settle(one, all)
	}
}

// begin: puts down with which tokens a form can begin. (No form that is asked begins with a part that may be left out.)
func begin(f *form, all map[string]*form, first map[string]bool) {
	switch {
	case f.kind == 'w' && all[f.word] != nil:
		begin(all[f.word], all, first)
	case f.kind == 'w':
		first[f.word] = true
	case f.kind == '|':
		for _, one := range f.parts {
			begin(one, all, first)
		}
	case f.kind == 's' && strings.HasPrefix(f.parts[0].word, "<"):
		begin(f.parts[1], all, first)
	default:
		begin(f.parts[0], all, first)
	}
}

// part: what was read by a rule (with its parts), or a token.
type part struct {
	rule  string
	tok   api.Token
	array bool // a NAME that is an array's
	parts []*part
}

// answer: what ParseAt must answer, the tree as its text.
type answer struct {
	text  string
	names api.Names
	place int
	e     api.Errno
}

// reading: the model's parser, which goes by the grammar as it is written.
type reading struct {
	toks  []api.Token
	words []string // the tokens' symbols
	at    int
	open  int
	names api.Names
}

type stop struct{ e api.Errno }

// model: what ParseAt must answer.
func model(toks []api.Token, from int, names api.Names) (out answer) {
	if !areRight(names) {
		return answer{place: from, e: api.ErrNames}
	}
	r := &reading{names: api.Names{Vars: slices.Clone(names.Vars), Arrays: slices.Clone(names.Arrays)}}
	if from >= 0 && from <= len(toks) {
		r.toks = toks[from:]
		r.toks = r.toks[:min(len(r.toks), 65536)]
	}
	for _, one := range r.toks {
		r.words = append(r.words, symbolOf(one))
	}
	defer func() {
		if given := recover(); given != nil {
			out = answer{place: from + r.at, e: given.(stop).e}
		}
	}()
	root := r.rule("expr")
	s := r.shape(root)
	switch {
	case s.nodes > 10000:
		return answer{place: from, e: api.ErrNodes}
	case s.depth > 200:
		return answer{place: from, e: api.ErrDepth}
	}
	return answer{text: s.text, names: r.names, place: from + r.at}
}

// symbol: the grammar's word for the token so many places ahead.
func (r *reading) symbol(ahead int) string {
	if r.at+ahead >= len(r.words) {
		return "END"
	}
	return r.words[r.at+ahead]
}

// symbolOf: the grammar's word for a token.
func symbolOf(one api.Token) string {
	switch {
	case one.Kind == api.TokNumber:
		return "NUMBER"
	case one.Kind == api.TokString:
		return "TEXT"
	case one.Kind == api.TokName && isName(one.Text):
		return "NAME"
	case one.Kind == api.TokFunc && slices.Contains(functions, one.Text), one.Kind == api.TokKeyword && one.Text == "in", one.Kind == api.TokOp && slices.Contains(operators, one.Text):
		return `"` + one.Text + `"`
	}
	return "END"
}

func (r *reading) rule(name string) *part {
	out := &part{rule: name}
	open := r.open
	r.read(rules[name], out)
	if name == "expr" {
		r.open = open
	}
	return out
}

func (r *reading) read(f *form, into *part) {
	switch f.kind {
	case '|':
		for _, one := range f.parts {
			if len(f.parts) == 1 || one.first[r.symbol(0)] {
				r.read(one, into)
				return
			}
		}
		panic(stop{api.ErrSyntax})
	case 's':
		for _, one := range f.parts {
			r.read(one, into)
		}
	case '[':
		if r.goesOn(f.parts[0], into) {
			r.read(f.parts[0], into)
		}
	case '{':
		for r.goesOn(f.parts[0], into) {
			r.read(f.parts[0], into)
		}
	case 'w':
		switch {
		case f.word[0] == '<':
		case f.rule != nil:
			into.parts = append(into.parts, r.rule(f.word))
		case f.word == r.symbol(0):
			r.take(into)
		default:
			panic(stop{api.ErrSyntax})
		}
	}
}

// goesOn: whether a part that may be left out begins here.
func (r *reading) goesOn(f *form, into *part) bool {
	if !f.first[r.symbol(0)] {
		return false
	}
	switch f.parts[0].parts[0].word {
	case "<target>":
		return len(into.parts) == 1 && isTarget(into.parts[0])
	case "<begins>":
		s := r.symbol(0)
		return s == "NUMBER" || s == "TEXT" || s == "NAME" || slices.Contains(functions, strings.Trim(s, `"`)) || slices.Contains([]string{`"$"`, `"("`, `"++"`, `"--"`}, s)
	}
	return true
}

// isTarget: whether what was read is a target as it stands.
func isTarget(p *part) bool {
	return p.rule == "target" || len(p.parts) == 1 && isTarget(p.parts[0])
}

// take: reads a token of a rule.
func (r *reading) take(into *part) {
	one := r.toks[r.at]
	array := false
	switch symbol := r.symbol(0); {
	case symbol == "NAME":
		array = into.rule != "target" || r.symbol(1) == `"["`
		r.number(one.Text, array)
	case symbol == `"("`, symbol == `"["`, into.rule == "cond" && symbol == `"?"`, into.rule == "expr":
		if r.open == 1000 {
			panic(stop{api.ErrDepth})
		}
		r.open++
	case symbol == `")"`, symbol == `"]"`:
		r.open--
	}
	into.parts = append(into.parts, &part{tok: one, array: array})
	r.at++
}

// number: puts a name that is new at the end of its list.
func (r *reading) number(name string, array bool) {
	list, most := &r.names.Vars, 247
	if array {
		list, most = &r.names.Arrays, 64
	} else if slices.Contains(nine, name) {
		return
	}
	if slices.Contains(*list, name) {
		return
	}
	if len(*list) == most {
		panic(stop{api.ErrNames})
	}
	*list = append(*list, name)
}

// shape: a tree as its text, with the number of its nodes and its depth.
type shape struct {
	text  string
	nodes int
	depth int
}

// over: the shape of a node over others.
func over(text string, kids ...shape) shape {
	out := shape{text, 1, 1}
	for _, one := range kids {
		out.nodes += one.nodes
		out.depth = max(out.depth, 1+one.depth)
	}
	return out
}

// shape: of the tree that a part is read as.
func (r *reading) shape(p *part) shape {
	if len(p.parts) == 1 && p.parts[0].rule != "" {
		return r.shape(p.parts[0])
	}
	var inner []shape // of the parts that are no tokens
	var marks []string
	for _, one := range p.parts {
		if one.rule != "" {
			inner = append(inner, r.shape(one))
		} else {
			marks = append(marks, one.tok.Text)
		}
	}
	switch p.rule {
	case "expr", "pow", "rel":
		return over("("+inner[0].text+" "+marks[0]+" "+inner[1].text+")", inner...)
	case "cond":
		return over("("+inner[0].text+" ? "+inner[1].text+" : "+inner[2].text+")", inner...)
	case "or", "and", "add", "mul", "cat":
		out := inner[0]
		for i, one := range inner[1:] {
			mark := " "
			if p.rule != "cat" {
				mark = " " + marks[i] + " "
			}
			out = over("("+out.text+mark+one.text+")", out, one)
		}
		return out
	case "memb":
		out := inner[0]
		for i := 1; i < len(marks); i += 2 {
			out = over("("+out.text+" in "+marks[i]+")", out)
		}
		return out
	case "unary", "powun":
		return over("("+marks[0]+inner[0].text+")", inner...)
	case "post", "fprim":
		switch {
		case p.rule == "fprim" && len(p.parts) == 1, len(p.parts) == 3:
			return r.primary(p, inner, marks)
		case p.parts[0].rule == "":
			return over("("+marks[0]+inner[0].text+")", inner...)
		}
		return over("("+inner[0].text+marks[0]+")", inner...)
	case "prim":
		return r.primary(p, inner, marks)
	case "target":
		switch {
		case marks[0] == "$":
			return over("$"+inner[0].text, inner...)
		case p.parts[0].array:
			return over(marks[0]+"["+joined(inner)+"]", inner...)
		}
		return over(marks[0])
	}
	return r.called(p, inner, marks)
}

// primary: the shape of a number, a text, or what stands in brackets.
func (r *reading) primary(p *part, inner []shape, marks []string) shape {
	switch one := p.parts[0].tok; {
	case one.Kind == api.TokNumber:
		text, _ := token.Number(one.Num)
		return over(text)
	case one.Kind == api.TokString:
		return over(token.Quote(one.Text))
	case len(inner) == 1:
		return inner[0]
	}
	return over("(("+joined(inner)+") in "+marks[len(marks)-1]+")", inner...)
}

// called: the shape of a call, with what stands for the arguments that are left out.
func (r *reading) called(p *part, inner []shape, marks []string) shape {
	name := marks[0]
	switch {
	case name == "length" && len(inner) == 0, strings.HasSuffix(name, "sub") && len(inner) == 2:
		inner = append(inner, over("$0", over("0")))
	case name == "split" && len(inner) == 1:
		inner = append(inner, over("FS"))
	}
	text := joined(inner)
	if name == "split" {
		for _, one := range p.parts {
			if one.array {
				text = inner[0].text + ", " + one.tok.Text + ", " + inner[1].text
			}
		}
	}
	if name == "asort" {
		text = marks[2]
	}
	return over(name+"("+text+")", inner...)
}

// joined: the texts of shapes with commas between them.
func joined(inner []shape) string {
	out := make([]string, len(inner))
	for i, one := range inner {
		out[i] = one.text
	}
	return strings.Join(out, ", ")
}

// tok: a token as it is written in a short text: a number, a text in quotes, or a word or a mark.
func tok(s string) api.Token {
	switch {
	case s[0] >= '0' && s[0] <= '9':
		n, _ := strconv.Atoi(s)
		return api.Token{Kind: api.TokNumber, Num: uint64(n)}
	case s[0] == '"':
		return api.Token{Kind: api.TokString, Text: strings.Trim(s, `"`)}
	case slices.Contains(functions, s):
		return api.Token{Kind: api.TokFunc, Text: s}
	case slices.Contains(keywords, s):
		return api.Token{Kind: api.TokKeyword, Text: s}
	case isName(s):
		return api.Token{Kind: api.TokName, Text: s}
	case s == ";":
		return api.Token{Kind: api.TokLine, Text: s}
	}
	return api.Token{Kind: api.TokOp, Text: s}
}

// toksOf: the tokens of words with blanks between them.
func toksOf(s string) []api.Token {
	var out []api.Token
	for _, one := range strings.Fields(s) {
		out = append(out, tok(one))
	}
	return out
}
