package gather

import "abacus/api"

// strange counts the addends that are no numbers: they decide what all sum up to, whatever the others are.
type strange struct {
	nans  int
	ups   int // positive infinities
	downs int // negative ones
}

// note counts the product of two doubles of these classes if it is no number, and tells whether it is none. neg is its sign.
func (s *strange) note(x int, y int, neg bool) bool {
	switch {
	case x == api.NotANumber || y == api.NotANumber, x == api.Infinite && y == api.Zero, x == api.Zero && y == api.Infinite:
		s.nans++
	case x != api.Infinite && y != api.Infinite:
		return false
	case neg:
		s.downs++
	default:
		s.ups++
	}
	return true
}

// join counts what t has counted too.
func (s *strange) join(t strange) {
	s.nans += t.nans
	s.ups += t.ups
	s.downs += t.downs
}

// verdict is what addends sum up to of which these are some; false if all are numbers.
func (s *strange) verdict() (uint64, bool) {
	switch {
	case s.nans > 0 || s.ups > 0 && s.downs > 0:
		return api.NaN, true
	case s.ups > 0:
		return api.Inf, true
	case s.downs > 0:
		return api.Inf | api.Sign, true
	}
	return 0, false
}
