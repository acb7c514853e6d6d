package store

import (
	"abacus/api"
	"abacus/value"
)

// usual: the format by which CONVFMT itself becomes a text, and what it is when a run begins.
const usual = "%.6g"

// refusesVar: the error of a variable's number.
func (s *Store) refusesVar(i int) api.Errno {
	switch {
	case s == nil:
		return api.ErrState
	case i < 0 || i >= api.MaxVars:
		return api.ErrVar
	}
	return api.OK
}

// held: variable i; its text is the store's own memory.
func (s *Store) held(i int) api.Value {
	if i == api.VarNf {
		return value.Num(double(s.record.Count()))
	}
	return s.vars[i]
}

// allVars: the variables up to the last one that has a value.
func (s *Store) allVars() []api.Value {
	count := api.MaxVars
	for s.held(count-1).Kind == api.KindNone { // NF has one
		count--
	}
	list := make([]api.Value, count)
	for i := range list {
		list[i] = value.Plain(s.held(i))
	}
	return list
}

// text: the text of variable i.
func (s *Store) text(i int) (string, api.Errno) {
	if i == api.VarConvfmt {
		return s.convfmt(), api.OK
	}
	return value.ToStr(s.held(i), s.convfmt())
}

// convfmt: the text of CONVFMT, which has one whatever its value is.
func (s *Store) convfmt() string {
	text, _ := value.ToStr(s.vars[api.VarConvfmt], usual)
	return text
}
