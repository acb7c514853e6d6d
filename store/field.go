package store

import (
	"math/bits"

	"abacus/api"
	"abacus/value"
)

// setCount: NF becomes v.
func (s *Store) setCount(v api.Value) api.Errno {
	n, ok := count(value.ToNum(v))
	if !ok {
		return api.ErrField
	}
	ofs, e := s.text(api.VarOfs)
	if e != api.OK {
		return e
	}
	s.record.Seps("", ofs)
	return s.record.SetCount(n, s.convfmt())
}

// setText: $0 becomes v.
func (s *Store) setText(v api.Value) api.Errno {
	fs, e := s.text(api.VarFs)
	if e != api.OK {
		return e
	}
	s.record.Seps(fs, "")
	return s.record.Set(0, v, s.convfmt())
}

// setField: $i becomes v, for i from 1 on.
func (s *Store) setField(i int, v api.Value) api.Errno {
	ofs, e := s.text(api.VarOfs)
	if e != api.OK {
		return e
	}
	s.record.Seps("", ofs)
	return s.record.Set(i, v, s.convfmt())
}

// The parts of a double's bits.
const (
	fraction = 52            // bits of the fraction
	bias     = 1023          // the exponent of 1
	hidden   = 1 << fraction // the bit ahead of the fraction
)

// double: a number of fields as a double.
func double(n int) uint64 {
	if n == 0 {
		return 0
	}
	power := bits.Len(uint(n)) - 1
	return uint64(bias+power)<<fraction | uint64(n)<<(fraction-power)&(hidden-1)
}

// count: a double cut to a whole number, and whether that is a number of fields.
func count(d uint64) (int, bool) {
	power := int(d>>fraction&0x7ff) - bias
	if power < 0 { // above -1 and below 1
		return 0, true
	}
	if d&api.Sign != 0 || power > fraction { // NaNs and infinities have the greatest power
		return 0, false
	}
	n := (d&(hidden-1) | hidden) >> (fraction - power)
	if n > api.MaxFields {
		return 0, false
	}
	return int(n), true
}
