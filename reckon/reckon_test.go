package reckon_test

import (
	"testing"

	"abacus/api"
	"abacus/reckon"
	"abacus/value"
)

// What the operations do over numbers of all classes is held by the tests of packages walk and lower. Here stands what they make of values that are no numbers.

// P25.1: a value of any kind counts by its number, or by its truth.
func TestKinds(t *testing.T) {
	one, zero, three := value.Num(api.One), value.Num(0), value.Num(0x4008000000000000)
	minus := value.Num(0xc008000000000000)
	text, input, empty := value.Str("3x"), value.Input(" 3 "), value.Str("")
	for what, row := range map[string][2]api.Value{
		"Neg of a string": {reckon.Neg(text), minus}, "Neg of a strnum": {reckon.Neg(input), minus}, "Neg of no value": {reckon.Neg(api.Value{}), value.Num(api.Sign)}, "Neg of a NaN": {reckon.Neg(value.Num(api.NaN)), value.Num(api.NaN | api.Sign)},
		"Pos of a string": {reckon.Pos(text), three}, "Pos of a strnum": {reckon.Pos(input), three}, "Pos of no value": {reckon.Pos(api.Value{}), zero},
		"Not of a string": {reckon.Not(value.Str("0")), zero}, "Not of a strnum": {reckon.Not(value.Input("0")), one}, "Not of no value": {reckon.Not(api.Value{}), one},
		"Truth of a string": {reckon.Truth(value.Str("0")), one}, "Truth of a strnum": {reckon.Truth(value.Input("0")), zero}, "Truth of the empty string": {reckon.Truth(empty), zero},
		"Int of a string": {reckon.Int(value.Str("3.9")), three}, "Sqrt of a strnum": {reckon.Sqrt(value.Input("9")), three},
		"Bool of true": {reckon.Bool(true), one}, "Bool of false": {reckon.Bool(false), zero},
	} {
		if row[0] != row[1] {
			t.Errorf("%s: %v, want %v", what, row[0], row[1])
		}
	}
}

// P25.1: an operator takes the numbers of its values, and refuses a division by what is nothing as a number.
func TestBin(t *testing.T) {
	six := value.Num(0x4018000000000000)
	if v, e := reckon.Bin(api.OpAdd, value.Str("3x"), value.Input("3")); v != six || e != api.OK {
		t.Errorf("Bin: %v, error %d", v, e)
	}
	for _, op := range []int{api.OpDiv, api.OpMod} {
		for _, w := range []api.Value{{}, value.Num(0), value.Num(api.Sign), value.Str("x"), value.Input("-0")} {
			if v, e := reckon.Bin(op, six, w); v != (api.Value{}) || e != api.ErrDivide {
				t.Errorf("operator %d with %v: %v, error %d", op, w, v, e)
			}
		}
	}
	if v, e := reckon.Bin(api.OpPow, six, value.Str(".5")); v != (api.Value{}) || e != api.ErrPower {
		t.Errorf("a power: %v, error %d", v, e)
	}
}
