package record

import (
	"strings"

	"abacus/api"
	"abacus/value"
)

// refuses: the error of a field's number or a number of fields.
func (r *Record) refuses(i int) api.Errno {
	switch {
	case r == nil:
		return api.ErrState
	case i < 0 || i > api.MaxFields:
		return api.ErrField
	}
	return api.OK
}

// read: the text becomes this one, and the fields what it holds.
func (r *Record) read(text string) {
	r.text, r.fields = text, nil
	for part := range fields(text, r.fs) {
		r.fields = append(r.fields, value.Input(part))
	}
}

// setText: $0 becomes v.
func (r *Record) setText(v api.Value, convfmt string) api.Errno {
	text, e := value.ToStr(v, convfmt)
	if e != api.OK {
		return e
	}
	// A string's text is taken as it stands, so its length is looked at here.
	if len(text) > api.MaxText {
		return api.ErrLong
	}
	r.read(text)
	return api.OK
}

// copied: values in plain form, which share no memory with these.
func copied(list []api.Value) []api.Value {
	out := make([]api.Value, len(list))
	for i, v := range list {
		out[i] = value.Plain(v)
	}
	return out
}

// at: $i, from 1 on; none behind the last field.
func (r *Record) at(i int) api.Value {
	if i > len(r.fields) {
		return api.Value{}
	}
	return r.fields[i-1]
}

// resize: the fields behind $n are dropped, or such as are none are put behind the last one.
func (r *Record) resize(n int) {
	if n > len(r.fields) {
		r.fields = append(r.fields, make([]api.Value, n-len(r.fields))...)
		return
	}
	clear(r.fields[n:]) // what is dropped isn't kept in the spare room
	r.fields = r.fields[:n]
}

// made: the text of n fields, ofs between them. What would make it too long isn't written, since a long ofs or convfmt makes far more of many fields than can be held.
func (r *Record) made(n int, field func(int) api.Value, convfmt string) (string, api.Errno) {
	var out strings.Builder
	between := ""
	for i := 1; i <= n; i++ {
		text, e := textOf(field(i), convfmt)
		if e != api.OK {
			return "", e
		}
		if out.Len()+len(between)+len(text) > api.MaxText {
			return "", tooLong(i+1, n, field, convfmt)
		}
		out.WriteString(between)
		out.WriteString(text)
		between = r.ofs
	}
	return out.String(), api.OK
}

// textOf: a field's text. A field is plain, so that where it isn't a number its Str is the text, and need not be copied.
func textOf(f api.Value, convfmt string) (string, api.Errno) {
	if f.Kind != api.KindNum {
		return f.Str, api.OK
	}
	return value.ToStr(f, convfmt)
}

// tooLong: the error of a text that is too long, with the fields from $i to $n still to come: one that has no text comes ahead. Whether convfmt is one is the same for all numbers that need it, so the first of them tells.
func tooLong(i int, n int, field func(int) api.Value, convfmt string) api.Errno {
	for ; i <= n; i++ {
		if !needsFormat(field(i)) {
			continue
		}
		if _, e := value.ToStr(field(i), convfmt); e != api.OK {
			return e
		}
		break
	}
	return api.ErrLong
}

// needsFormat: whether a field's text is made by convfmt.
func needsFormat(f api.Value) bool {
	if f.Kind != api.KindNum {
		return false
	}
	_, whole := value.Integer(f.Num)
	return !whole
}
