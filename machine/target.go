package machine

import (
	"abacus/api"
	"abacus/meaning"
	"abacus/store"
)

// namer tells the target that an instruction names, by its number and by the values, none or one, that say which field or element it is.
type namer func(s *store.Store, number int, vals []api.Value) (meaning.Target, api.Errno)

func variable(_ *store.Store, number int, _ []api.Value) (meaning.Target, api.Errno) {
	return meaning.Variable(number), api.OK
}

func field(_ *store.Store, _ int, vals []api.Value) (meaning.Target, api.Errno) {
	return meaning.Field{Number: vals[0]}, api.OK
}

// element makes its key; the errors of a text.
func element(s *store.Store, number int, vals []api.Value) (meaning.Target, api.Errno) {
	t := &meaning.Element{Array: number}
	if e := t.Aim(s, vals); e != api.OK {
		return nil, e
	}
	return t, api.OK
}

// read puts what a target is.
func read(name namer) operation {
	return func(r *run, in api.Instr, vals []api.Value) (api.Value, api.Errno) {
		t, e := name(r.store, in.A, vals)
		if e != api.OK {
			return api.Value{}, e
		}
		return t.Read(r.store)
	}
}

// assigned writes the last value into a target.
func assigned(name namer) operation {
	return func(r *run, in api.Instr, vals []api.Value) (api.Value, api.Errno) {
		last := len(vals) - 1
		t, e := name(r.store, in.A, vals[:last])
		if e != api.OK {
			return api.Value{}, e
		}
		return meaning.Assign(r.store, t, vals[last])
	}
}

// updated works out the number that an operator makes of a target and of the last value.
func updated(name namer) operation {
	return func(r *run, in api.Instr, vals []api.Value) (api.Value, api.Errno) {
		last := len(vals) - 1
		t, e := name(r.store, in.A, vals[:last])
		if e != api.OK {
			return api.Value{}, e
		}
		return meaning.Update(r.store, t, in.B, vals[last])
	}
}

// stepped counts a target up or down by one.
func stepped(name namer) operation {
	return func(r *run, in api.Instr, vals []api.Value) (api.Value, api.Errno) {
		t, e := name(r.store, in.A, vals)
		if e != api.OK {
			return api.Value{}, e
		}
		return meaning.Step(r.store, t, in.B)
	}
}

// replaced is sub or gsub over a target. The texts of the first two values come ahead of an element's key: their errors come first.
func replaced(name namer) operation {
	return func(r *run, in api.Instr, vals []api.Value) (api.Value, api.Errno) {
		texts, e := meaning.Texts(r.store, vals[:2]...)
		if e != api.OK {
			return api.Value{}, e
		}
		t, e := name(r.store, in.A, vals[2:])
		if e != api.OK {
			return api.Value{}, e
		}
		return meaning.Replace(r.store, t, in.B, texts[0], texts[1])
	}
}
