package machine

import (
	"abacus/api"
	"abacus/meaning"
	"abacus/reckon"
	"abacus/value"
)

// operation is what an instruction does with the values that it takes, the deepest first, and the value that it puts, if its word puts one. The values stand in the stack's own memory.
type operation func(r *run, in api.Instr, vals []api.Value) (api.Value, api.Errno)

// table: the operations by their words. No word has the number 0.
type table [api.InAsort + 1]operation

// operations is the table of all words.
func operations() table {
	return table{
		api.InNum:       number,
		api.InStr:       text,
		api.InVar:       read(variable),
		api.InSetVar:    assigned(variable),
		api.InOpVar:     updated(variable),
		api.InStepVar:   stepped(variable),
		api.InSubVar:    replaced(variable),
		api.InField:     read(field),
		api.InSetField:  assigned(field),
		api.InOpField:   updated(field),
		api.InStepField: stepped(field),
		api.InSubField:  replaced(field),
		api.InKey:       key,
		api.InElem:      read(element),
		api.InSetElem:   assigned(element),
		api.InOpElem:    updated(element),
		api.InStepElem:  stepped(element),
		api.InSubElem:   replaced(element),
		api.InIn:        has,
		api.InNeg:       turned(reckon.Neg),
		api.InPos:       turned(reckon.Pos),
		api.InNot:       turned(reckon.Not),
		api.InTruth:     turned(reckon.Truth),
		api.InBin:       bin,
		api.InCat:       cat,
		api.InRel:       rel,
		api.InJump:      jump,
		api.InIfNot:     jumpIf(false),
		api.InIf:        jumpIf(true),
		api.InPop:       nothing,
		api.InCall:      call,
		api.InSplit:     split,
		api.InAsort:     asort,
	}
}

func number(r *run, in api.Instr, _ []api.Value) (api.Value, api.Errno) {
	return value.Num(r.code.Nums[in.A]), api.OK
}

// text puts a text as it stands in the code: to copy a long one each time would be much work for nothing, since what goes into a store or an answer is copied there.
func text(r *run, in api.Instr, _ []api.Value) (api.Value, api.Errno) {
	return api.Value{Kind: api.KindStr, Str: r.code.Strs[in.A]}, api.OK
}

func key(r *run, _ api.Instr, vals []api.Value) (api.Value, api.Errno) {
	made, e := meaning.Key(r.store, vals)
	if e != api.OK {
		return api.Value{}, e
	}
	return value.Str(made), api.OK
}

func has(r *run, in api.Instr, vals []api.Value) (api.Value, api.Errno) {
	return meaning.In(r.store, in.A, vals)
}

// turned is an operation that makes one value of another and needs no store.
func turned(turn func(v api.Value) api.Value) operation {
	return func(_ *run, _ api.Instr, vals []api.Value) (api.Value, api.Errno) {
		return turn(vals[0]), api.OK
	}
}

func bin(_ *run, in api.Instr, vals []api.Value) (api.Value, api.Errno) {
	return reckon.Bin(in.A, vals[0], vals[1])
}

func cat(r *run, _ api.Instr, vals []api.Value) (api.Value, api.Errno) {
	return meaning.Cat(r.store, vals[0], vals[1])
}

func rel(r *run, in api.Instr, vals []api.Value) (api.Value, api.Errno) {
	return meaning.Rel(r.store, in.A, vals[0], vals[1])
}

func jump(r *run, in api.Instr, _ []api.Value) (api.Value, api.Errno) {
	r.place = in.A
	return api.Value{}, api.OK
}

// jumpIf is a jump that is taken just if the value's truth is this one.
func jumpIf(wanted bool) operation {
	return func(r *run, in api.Instr, vals []api.Value) (api.Value, api.Errno) {
		if value.Truth(vals[0]) == wanted {
			r.place = in.A
		}
		return api.Value{}, api.OK
	}
}

func nothing(*run, api.Instr, []api.Value) (api.Value, api.Errno) { return api.Value{}, api.OK }

func call(r *run, in api.Instr, vals []api.Value) (api.Value, api.Errno) {
	return meaning.Call(r.store, in.A, vals)
}

func split(r *run, in api.Instr, vals []api.Value) (api.Value, api.Errno) {
	return meaning.Split(r.store, in.A, vals[0], vals[1])
}

func asort(r *run, in api.Instr, _ []api.Value) (api.Value, api.Errno) {
	return meaning.Asort(r.store, in.A)
}
