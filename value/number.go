package value

import (
	"abacus/api"
	"abacus/directive"
	"abacus/render"
)

const (
	fractionBits = 52
	fraction     = 1<<fractionBits - 1
	bias         = 1023 // an exponent's field above its power of two
	topBit       = 63
)

// isZero: whether d is a zero of either sign.
func isZero(d uint64) bool { return d&^api.Sign == 0 }

// toInt: d's number, if d is whole and its magnitude is below 2^63.
func toInt(d uint64) (int64, bool) {
	if isZero(d) {
		return 0, true
	}
	size := d &^ api.Sign
	power := int(size>>fractionBits) - bias
	// Below 1 nothing more is whole; infinities and NaNs have the highest power.
	if power < 0 || power >= topBit {
		return 0, false
	}
	// With its first bit at the top, the mantissa's whole part is its first power+1 bits.
	mant := (size&fraction | 1<<fractionBits) << (topBit - fractionBits)
	behind := topBit - power
	n := mant >> behind
	if n<<behind != mant {
		return 0, false
	}
	if d != size {
		return -int64(n), true
	}
	return int64(n), true
}

// written: the text of a number; by convfmt only if it isn't whole or is too great.
func written(d uint64, convfmt string) (string, api.Errno) {
	if digits, ok := Integer(d); ok {
		return digits, api.OK
	}
	ahead, s, behind, ok := directive.Single(convfmt)
	if !ok {
		return "", api.ErrConv
	}
	body, e := render.One(s, api.Arg{Num: d})
	if e != api.OK {
		return "", e
	}
	if len(ahead)+len(body)+len(behind) > api.MaxText {
		return "", api.ErrLong
	}
	return ahead + body + behind, api.OK
}
