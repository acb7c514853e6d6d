package spell

import (
	"slices"

	"abacus/api"
	"abacus/render"
	"abacus/value"
)

// argument: Arg's answer, whose text may be v's own: no copy is made of what is only looked at.
func argument(convfmt string, verb byte, v api.Value) (api.Arg, api.Errno) {
	if !asText(verb, v) {
		return number(v), api.OK
	}
	text, e := written(v, convfmt)
	if e != api.OK {
		return api.Arg{}, e
	}
	return api.Arg{Text: true, Str: text}, api.OK
}

// arguments: what render gets for the values that a piece takes, its own the last; a text and a percent take none.
func arguments(convfmt string, p api.Piece, vals []api.Value) ([]api.Arg, api.Errno) {
	if len(vals) == 0 {
		return nil, api.OK
	}
	last := len(vals) - 1
	args := make([]api.Arg, len(vals))
	for i, v := range vals[:last] {
		args[i] = number(v)
	}
	if e := checkStars(p, args[:last]); e != api.OK {
		return nil, e
	}
	own, e := argument(convfmt, p.Verb, vals[last])
	if e != api.OK {
		return nil, e
	}
	args[last] = own
	return args, api.OK
}

// checkStars: what render tells of the numbers of a directive's stars. They are tried on an empty text, which has no fault of its own, since they count ahead of the value that isn't yet made an argument.
func checkStars(p api.Piece, stars []api.Arg) api.Errno {
	if len(stars) == 0 {
		return api.OK
	}
	p.Verb = 's'
	_, e := render.Pieces([]api.Piece{p}, append(slices.Clone(stars), api.Arg{Text: true}))
	return e
}

// asText: whether the verb takes v as a text.
func asText(verb byte, v api.Value) bool {
	switch verb {
	case 's':
		return true
	case 'c':
		return v.Kind != api.KindNum && v.Kind != api.KindStrnum
	}
	return false
}

// number: v's number as an argument.
func number(v api.Value) api.Arg { return api.Arg{Num: value.ToNum(v)} }

// written: what value.ToStr answers, without a copy of a text that is only looked at.
func written(v api.Value, convfmt string) (string, api.Errno) {
	if v.Kind == api.KindStr || v.Kind == api.KindStrnum {
		return v.Str, api.OK
	}
	return value.ToStr(v, convfmt)
}
