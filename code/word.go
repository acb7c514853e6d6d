package code

import "abacus/api"

// What a field of an instruction holds.
const (
	nothing   = iota // 0
	numPlace         // a place in Nums
	strPlace         // a place in Strs
	codePlace        // a place to which it jumps
	variable
	array
	operator
	step
	relation
	replacer // FnSub or FnGsub
	callee   // a function that can be called
	many     // how many values are taken
)

// row: what instructions of one word are.
type row struct {
	name  string
	a     int // what A holds
	b     int // what B holds
	takes int // beside the values that a field counts
	puts  int
}

// table: the rows by their words. No word has the number 0.
type table [api.InAsort + 1]row

// words is the table of all words.
func words() table {
	return table{
		api.InNum:       {"num", numPlace, nothing, 0, 1},
		api.InStr:       {"str", strPlace, nothing, 0, 1},
		api.InVar:       {"var", variable, nothing, 0, 1},
		api.InSetVar:    {"setvar", variable, nothing, 1, 1},
		api.InOpVar:     {"opvar", variable, operator, 1, 1},
		api.InStepVar:   {"stepvar", variable, step, 0, 1},
		api.InSubVar:    {"subvar", variable, replacer, 2, 1},
		api.InField:     {"field", nothing, nothing, 1, 1},
		api.InSetField:  {"setfield", nothing, nothing, 2, 1},
		api.InOpField:   {"opfield", nothing, operator, 2, 1},
		api.InStepField: {"stepfield", nothing, step, 1, 1},
		api.InSubField:  {"subfield", nothing, replacer, 3, 1},
		api.InKey:       {"key", many, nothing, 0, 1},
		api.InElem:      {"elem", array, nothing, 1, 1},
		api.InSetElem:   {"setelem", array, nothing, 2, 1},
		api.InOpElem:    {"opelem", array, operator, 2, 1},
		api.InStepElem:  {"stepelem", array, step, 1, 1},
		api.InSubElem:   {"subelem", array, replacer, 3, 1},
		api.InIn:        {"in", array, nothing, 1, 1},
		api.InNeg:       {"neg", nothing, nothing, 1, 1},
		api.InPos:       {"pos", nothing, nothing, 1, 1},
		api.InNot:       {"not", nothing, nothing, 1, 1},
		api.InTruth:     {"truth", nothing, nothing, 1, 1},
		api.InBin:       {"bin", operator, nothing, 2, 1},
		api.InCat:       {"cat", nothing, nothing, 2, 1},
		api.InRel:       {"rel", relation, nothing, 2, 1},
		api.InJump:      {"jump", codePlace, nothing, 0, 0},
		api.InIfNot:     {"ifnot", codePlace, nothing, 1, 0},
		api.InIf:        {"if", codePlace, nothing, 1, 0},
		api.InPop:       {"pop", nothing, nothing, 1, 0},
		api.InCall:      {"call", callee, many, 0, 1},
		api.InSplit:     {"split", array, nothing, 2, 1},
		api.InAsort:     {"asort", array, nothing, 0, 1},
	}
}

// effect is what Effect answers.
func (t *table) effect(in api.Instr) (int, int, bool) {
	if !isWord(in.Word) || !t[in.Word].fits(in) {
		return 0, 0, false
	}
	r := t[in.Word]
	takes := r.takes
	if r.a == many {
		takes += in.A
	}
	if r.b == many {
		takes += in.B
	}
	return takes, r.puts, true
}

// fits tells whether an instruction of this word has fields as they must be.
func (r row) fits(in api.Instr) bool {
	if r.a == callee {
		least, most := arguments(in.A)
		return within(in.B, least, most)
	}
	return holds(r.a, in.A) && holds(r.b, in.B)
}

// fields are those of an instruction's fields that this word has.
func (r row) fields(in api.Instr) []int {
	list := make([]int, 0, 2)
	if r.a != nothing {
		list = append(list, in.A)
	}
	if r.b != nothing {
		list = append(list, in.B)
	}
	return list
}

// holds tells whether x is something that a field may hold.
func holds(what int, x int) bool {
	switch what {
	case numPlace, strPlace:
		return x >= 0
	case codePlace:
		return x >= 1
	case variable:
		return within(x, 0, api.MaxVars-1)
	case array:
		return within(x, 0, api.MaxArrays-1)
	case operator:
		return within(x, api.OpAdd, api.OpPow)
	case step:
		return within(x, api.IncBefore, api.DecAfter)
	case relation:
		return within(x, api.LT, api.GE)
	case replacer:
		return within(x, api.FnSub, api.FnGsub)
	case many:
		return within(x, 1, api.MaxStack)
	}
	return x == 0
}

// arguments is how many a function may be called with, at least and at most; of one that can't be called no number is.
func arguments(function int) (int, int) {
	switch function {
	case api.FnLength, api.FnInt, api.FnSqrt, api.FnToupper, api.FnTolower:
		return 1, 1
	case api.FnIndex:
		return 2, 2
	case api.FnSubstr:
		return 2, 3
	case api.FnSprintf, api.FnSum:
		return 1, api.MaxStack
	}
	return 1, 0
}

func isWord(number int) bool { return within(number, api.InNum, api.InAsort) }

func within(x int, low int, high int) bool { return low <= x && x <= high }
