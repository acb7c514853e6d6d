package ieee_test

import (
	"testing"

	"abacus/api"
	"abacus/ieee"
)

// parts: doubles with what they are made of, the document's examples among them.
func parts() map[uint64]api.Parts {
	return map[uint64]api.Parts{
		0:                  {},
		minus:              {Neg: true},
		1:                  {Class: api.Subnormal, Mant: 1, Exp: -1074},
		minus | 1:          {Neg: true, Class: api.Subnormal, Mant: 1, Exp: -1074},
		1<<52 - 1:          {Class: api.Subnormal, Mant: 1<<52 - 1, Exp: -1074},
		1 << 52:            {Class: api.Normal, Mant: 1 << 52, Exp: -1074},
		1<<53 - 1:          {Class: api.Normal, Mant: 1<<53 - 1, Exp: -1074},
		1 << 53:            {Class: api.Normal, Mant: 1 << 52, Exp: -1073},
		0x3ff8000000000000: {Class: api.Normal, Mant: 3 << 51, Exp: -52},
		0xc004000000000000: {Neg: true, Class: api.Normal, Mant: 5 << 50, Exp: -51},
		0x4330000000000000: {Class: api.Normal, Mant: 1 << 52, Exp: 0},
		0x7fe0000000000000: {Class: api.Normal, Mant: 1 << 52, Exp: 971},
		api.Most:           {Class: api.Normal, Mant: 1<<53 - 1, Exp: 971},
		api.Most | minus:   {Neg: true, Class: api.Normal, Mant: 1<<53 - 1, Exp: 971},
		api.Inf:            {Class: api.Infinite},
		api.Inf | minus:    {Neg: true, Class: api.Infinite},
		api.Inf + 1:        {Class: api.NotANumber, Mant: 1},
		api.NaN:            {Class: api.NotANumber, Mant: 1 << 51},
		api.NaN | minus:    {Neg: true, Class: api.NotANumber, Mant: 1 << 51},
		top:                {Neg: true, Class: api.NotANumber, Mant: 1<<52 - 1},
	}
}

// taken: d taken apart by the chapter's tables.
func taken(d uint64) api.Parts {
	e, f := int(d<<1>>53), d&0xfffffffffffff
	p := api.Parts{Neg: d>>63 == 1}
	switch {
	case e == 0 && f == 0:
		p.Class = 0
	case e == 0:
		p.Class, p.Mant, p.Exp = 1, f, -1074
	case e < 2047:
		p.Class, p.Mant, p.Exp = 2, 0x10000000000000+f, e-1075
	case f == 0:
		p.Class = 3
	default:
		p.Class, p.Mant = 4, f
	}
	return p
}

// isDouble: whether some double has the parts.
func isDouble(p api.Parts) bool {
	switch p.Class {
	case api.Zero, api.Infinite:
		return p.Mant == 0 && p.Exp == 0
	case api.Subnormal:
		return p.Mant > 0 && p.Mant < 1<<52 && p.Exp == -1074
	case api.Normal:
		return p.Mant >= 1<<52 && p.Mant < 1<<53 && p.Exp >= -1074 && p.Exp <= 971
	case api.NotANumber:
		return p.Mant > 0 && p.Mant < 1<<52 && p.Exp == 0
	}
	return false
}

// P4.1: Decode takes a double apart by the tables, Class tells its class.
func TestDecode(t *testing.T) {
	for d, want := range parts() {
		if p := ieee.Decode(d); p != want {
			t.Errorf("Decode(%016x) = %+v, want %+v", d, p, want)
		}
		if c := ieee.Class(d); c != want.Class {
			t.Errorf("Class(%016x) = %d, want %d", d, c, want.Class)
		}
	}
	for _, d := range doubles() {
		if p := ieee.Decode(d); p != taken(d) {
			t.Errorf("Decode(%016x) = %+v, want %+v", d, p, taken(d))
		}
		if c := ieee.Class(d); c != taken(d).Class {
			t.Errorf("Class(%016x) = %d, want %d", d, c, taken(d).Class)
		}
	}
}

// P4.2: Encode puts together what Decode takes apart.
func TestEncode(t *testing.T) {
	for d, p := range parts() {
		got, e := ieee.Encode(p)
		bits(t, "Encode", got, e, d)
	}
	for _, d := range doubles() {
		got, e := ieee.Encode(taken(d))
		bits(t, "Encode", got, e, d)
	}
}

// P4.2: Encode refuses parts that are no double's: each field's edges with each of the others.
func TestEncodeRefuses(t *testing.T) {
	mants := []uint64{0, 1, 2, 1 << 51, 1<<52 - 1, 1 << 52, 1<<52 + 1, 1<<53 - 1, 1 << 53, 1<<53 + 1, 1 << 62, 1 << 63, 1<<63 + 1, 1<<63 + 1<<52, top}
	exps := []int{0, 1, -1, -1073, -1074, -1075, -1076, 970, 971, 972, 973, 1024, 2046, 2047, 2048, -2047, -2048, -1074 - 2048, 971 + 2048, -3123, 1 << 32, -1 << 32, maxInt, maxInt - 1075, minInt, minInt + 1074, minInt + 1075}
	for class := -3; class < 9; class++ {
		for _, mant := range mants {
			for _, exp := range exps {
				for _, neg := range []bool{false, true} {
					tryParts(t, api.Parts{Neg: neg, Class: class, Mant: mant, Exp: exp})
				}
			}
		}
	}
	for _, class := range []int{maxInt, minInt, 1<<32 + 2, 258, -254} {
		tryParts(t, api.Parts{Class: class, Mant: 1 << 52})
		tryParts(t, api.Parts{Class: class})
	}
}

func tryParts(t *testing.T, p api.Parts) {
	t.Helper()
	d, e := ieee.Encode(p)
	if !isDouble(p) {
		if d != 0 || e != api.ErrParts {
			t.Errorf("Encode(%+v) = %016x, error %d; want 0, ErrParts", p, d, e)
		}
	} else if taken(d) != p || e != api.OK {
		t.Errorf("Encode(%+v) = %016x, error %d", p, d, e)
	}
}

// P4.3: Neg turns the sign bit and Abs clears it, a NaN's too, and nothing else.
func TestSigns(t *testing.T) {
	for _, d := range doubles() {
		want := d + 1<<63
		if got := ieee.Neg(d); got != want {
			t.Errorf("Neg(%016x) = %016x", d, got)
		}
		if got := ieee.Abs(d); got != d<<1>>1 {
			t.Errorf("Abs(%016x) = %016x", d, got)
		}
	}
	if d := ieee.Neg(api.NaN); d != 0xfff8000000000000 {
		t.Errorf("Neg of the NaN: %016x", d)
	}
	if d := ieee.Abs(0xfff8000000000001); d != 0x7ff8000000000001 {
		t.Errorf("Abs of a NaN: %016x", d)
	}
}
