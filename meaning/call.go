package meaning

import (
	"strconv"

	"abacus/api"
	"abacus/chars"
	"abacus/gather"
	"abacus/reckon"
	"abacus/record"
	"abacus/relate"
	"abacus/spell"
	"abacus/store"
	"abacus/value"
)

// Call is a function of its arguments, for all functions that change nothing; the errors of their texts, Sprintf's.
func Call(s *store.Store, function int, args []api.Value) (api.Value, api.Errno) {
	switch function {
	case api.FnInt:
		return reckon.Int(args[0]), api.OK
	case api.FnSqrt:
		return reckon.Sqrt(args[0]), api.OK
	case api.FnSum:
		return value.Num(gather.Sum(numbers(args))), api.OK
	case api.FnIndex:
		return index(s, args[0], args[1])
	}
	text, e := Text(s, args[0])
	if e != api.OK {
		return api.Value{}, e
	}
	switch function {
	case api.FnLength:
		return Count(len(text)), api.OK
	case api.FnSprintf:
		return sprintf(s, text, args[1:])
	case api.FnToupper:
		return value.Str(chars.Upper(text)), api.OK
	case api.FnTolower:
		return value.Str(chars.Lower(text)), api.OK
	}
	return value.Str(substr(text, numbers(args[1:]))), api.OK
}

// numbers are the numbers of values.
func numbers(vals []api.Value) []uint64 {
	list := make([]uint64, len(vals))
	for i, v := range vals {
		list[i] = value.ToNum(v)
	}
	return list
}

// index is the place of w's text in v's.
func index(s *store.Store, v api.Value, w api.Value) (api.Value, api.Errno) {
	texts, e := Texts(s, v, w)
	if e != api.OK {
		return api.Value{}, e
	}
	return Count(chars.Index(texts[0], texts[1])), api.OK
}

// sprintf is a format with these values.
func sprintf(s *store.Store, format string, vals []api.Value) (api.Value, api.Errno) {
	convfmt, e := s.Setting(api.VarConvfmt)
	if e != api.OK {
		return api.Value{}, e
	}
	text, e := spell.Sprintf(convfmt, format, vals...)
	if e != api.OK {
		return api.Value{}, e
	}
	return value.Str(text), api.OK
}

// substr is a piece of a text, by the place where it begins and, if there is one, its length.
func substr(text string, bounds []uint64) string {
	if len(bounds) == 1 {
		return chars.From(text, bounds[0])
	}
	return chars.Substr(text, bounds[0], bounds[1])
}

// Split lets an array hold the parts of v's text, cut by sep's, and nothing else, and answers how many they are; the errors of the texts.
func Split(s *store.Store, array int, v api.Value, sep api.Value) (api.Value, api.Errno) {
	texts, e := Texts(s, v, sep)
	if e != api.OK {
		return api.Value{}, e
	}
	parts := record.Fields(texts[0], texts[1])
	vals := make([]api.Value, len(parts))
	for i, part := range parts {
		vals[i] = value.Input(part)
	}
	return fill(s, array, vals)
}

// Asort lets an array hold its values in their order, and answers how many they are.
func Asort(s *store.Store, array int) (api.Value, api.Errno) {
	keys, e := s.Keys(array)
	if e != api.OK {
		return api.Value{}, e
	}
	vals := make([]api.Value, len(keys))
	for i, key := range keys {
		if vals[i], e = s.Elem(array, key); e != api.OK {
			return api.Value{}, e
		}
	}
	sorted := make([]api.Value, len(vals))
	for i, place := range relate.Sort(vals) {
		sorted[i] = vals[place]
	}
	return fill(s, array, sorted)
}

// fill lets an array hold these values, from the key 1 on, and nothing else, and answers how many they are.
func fill(s *store.Store, array int, vals []api.Value) (api.Value, api.Errno) {
	if e := s.Wipe(array); e != api.OK {
		return api.Value{}, e
	}
	for i, v := range vals {
		if e := s.SetElem(array, strconv.Itoa(i+1), v); e != api.OK {
			return api.Value{}, e
		}
	}
	return Count(len(vals)), api.OK
}
