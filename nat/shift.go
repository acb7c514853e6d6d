package nat

import "abacus/api"

// Shl: a * 2^n; ErrArg if n is below 0.
func Shl(a []uint64, n int) ([]uint64, api.Errno) {
	a, e := limitedShift(a, n)
	if e != api.OK {
		return nil, e
	}
	if len(a) == 0 {
		return nil, api.OK
	}
	// By subtraction, since a length plus the greatest n would wrap round.
	if BitLen(a) > api.MaxLimbs*limbBits-n {
		return nil, api.ErrBig
	}
	skip, turn := n/limbBits, uint(n%limbBits)
	out := make([]uint64, skip+len(a)+1)
	spill := uint64(0)
	for i, x := range a {
		out[skip+i] = x<<turn | spill
		spill = x >> (limbBits - turn)
	}
	out[skip+len(a)] = spill
	return trimmed(out), api.OK
}

// Low: the lowest n bits of a; ErrArg if n is below 0.
func Low(a []uint64, n int) ([]uint64, api.Errno) {
	a, e := limitedShift(a, n)
	if e != api.OK {
		return nil, e
	}
	if n >= BitLen(a) {
		return Trim(a), api.OK
	}
	whole, part := n/limbBits, uint(n%limbBits)
	out := widened(a[:whole], 1)
	out[whole] = a[whole] & (1<<part - 1)
	return trimmed(out), api.OK
}

// Shr: a / 2^n, and whether a bit 1 was lost; ErrArg if n is below 0.
func Shr(a []uint64, n int) ([]uint64, bool, api.Errno) {
	a, e := limitedShift(a, n)
	if e != api.OK {
		return nil, false, e
	}
	if n >= BitLen(a) {
		return nil, len(a) > 0, api.OK
	}
	skip, turn := n/limbBits, uint(n%limbBits)
	out := widened(a[skip:], 0)
	spill := uint64(0)
	for i := len(out) - 1; i >= 0; i-- {
		x := out[i]
		out[i] = x>>turn | spill
		spill = x << (limbBits - turn)
	}
	return trimmed(out), Trail(a) < n, api.OK
}

// limitedShift: the operand a of a shift by n, trimmed to be read; ErrBig, then ErrArg if n is below 0.
func limitedShift(a []uint64, n int) ([]uint64, api.Errno) {
	a, e := limited(a)
	if e != api.OK {
		return nil, e
	}
	if n < 0 {
		return nil, api.ErrArg
	}
	return a, api.OK
}
