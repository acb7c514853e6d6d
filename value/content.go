package value

import (
	"strings"

	"abacus/api"
)

// content is what counts in a value: a type for each kind, which holds that alone, so that nothing else can be looked at.
type content interface {
	plain() api.Value
}

// none: no value.
type none struct{}

// number: a double.
type number struct{ num uint64 }

// text: a string.
type text struct{ str string }

// strnum: what came from input and looks like a number; num and str need not belong together.
type strnum struct {
	num uint64
	str string
}

func (none) plain() api.Value { return api.Value{Kind: api.KindNone} }

func (c number) plain() api.Value { return api.Value{Kind: api.KindNum, Num: c.num} }

// The text is copied, since what is answered shares no memory with what was handed in.
func (c text) plain() api.Value { return api.Value{Kind: api.KindStr, Str: strings.Clone(c.str)} }

func (c strnum) plain() api.Value {
	return api.Value{Kind: api.KindStrnum, Num: c.num, Str: strings.Clone(c.str)}
}

// inside: what counts in a raw value; a Kind outside the table is no value.
func inside(v api.Value) content {
	switch v.Kind {
	case api.KindNum:
		return number{v.Num}
	case api.KindStr:
		return text{v.Str}
	case api.KindStrnum:
		return strnum{v.Num, v.Str}
	}
	return none{}
}
