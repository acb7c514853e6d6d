package strtod

import (
	"abacus/api"
	"abacus/ieee"
	"abacus/nat"
	"abacus/numeral"
	"abacus/quick"
	"abacus/quot"
)

const (
	// A middle between two neighbouring doubles has at most so many figures: (2^54 - 1) * 2^-1075, the highest one that ends so low, has them all.
	mostFigures = 768
	// A number whose first figure counts so high a power of ten, either way, is beyond all finite doubles, or below half of the least.
	farPlace = 400
)

// road is a way from a normal Dec to the double nearest to it; false where it can't tell.
type road interface {
	double(d api.Dec) (uint64, bool)
}

// quickRoad goes by the table of powers of five.
type quickRoad struct{}

// exactRoad goes by whole numbers alone, and can always tell.
type exactRoad struct{}

// roads lists them in the order in which they are tried.
func roads() []road {
	return []road{quickRoad{}, exactRoad{}}
}

// travel is the double nearest to a normal Dec by the first of the roads that can tell, and which one that is, counted from 1.
func travel(d api.Dec, list []road) (uint64, int) {
	for i, r := range list {
		if x, sure := r.double(d); sure {
			return x, i + 1
		}
	}
	return 0, 0
}

func (quickRoad) double(d api.Dec) (uint64, bool) {
	return quick.Try(d)
}

func (exactRoad) double(d api.Dec) (uint64, bool) {
	x := nearest(d.Digits, d.Exp)
	if d.Neg {
		x = ieee.Neg(x)
	}
	return x, true
}

// nearest is the double nearest to the number that a normal Dec is without its sign.
func nearest(digits string, exp int) uint64 {
	place := exp + len(digits) - 1
	switch {
	case place >= farPlace:
		return api.Inf
	case place <= -farPlace:
		return 0
	}
	digits, exp = cut(digits, exp)
	n, _, _ := numeral.Read(digits)
	if exp < 0 {
		// 10^exp is 2^exp over 5^-exp, and ieee takes the 2^exp as it stands.
		five, _ := quot.Pow5(-exp)
		x, _ := ieee.RoundRatio(false, n, five, exp)
		return x
	}
	five, _ := quot.Pow5(exp)
	n, _ = nat.Mul(n, five)
	x, _ := ieee.Round(false, n, exp, false)
	return x
}

// cut keeps the figures that count of a normal Dec, so that no natural grows with the text. The last of the figures cut off is no zero, and no middle lies between what is kept and one more in its last place: so a 1 behind it stands for all of them.
func cut(digits string, exp int) (string, int) {
	if len(digits) <= mostFigures {
		return digits, exp
	}
	exp += len(digits) - mostFigures - 1
	return digits[:mostFigures] + "1", exp
}
