package scan

import (
	"strings"

	"abacus/api"
)

// slim is d's normal Dec, its digits still a piece of d's; false if d is none.
func slim(d api.Dec) (api.Dec, bool) {
	if d.Digits == "" || d.Exp < -api.MaxExp || d.Exp > api.MaxExp {
		return api.Dec{}, false
	}
	for i := range len(d.Digits) {
		if !digit(d.Digits[i]) {
			return api.Dec{}, false
		}
	}
	d = trim(d)
	if d.Exp > api.MaxExp {
		return api.Dec{}, false
	}
	return d, true
}

// trim leaves out the zeros ahead of and behind d's digits, all of which are digits.
func trim(d api.Dec) api.Dec {
	long := strings.TrimLeft(d.Digits, "0")
	if long == "" {
		return api.Dec{Neg: d.Neg, Digits: "0"}
	}
	short := strings.TrimRight(long, "0")
	return api.Dec{Neg: d.Neg, Digits: short, Exp: d.Exp + len(long) - len(short)}
}

// own gives d digits of its own: those of a piece would hold the whole text that was handed in.
func own(d api.Dec) api.Dec {
	d.Digits = strings.Clone(d.Digits)
	return d
}

// sign is -1, 0 or 1, as the value of a normal d lies below nothing, is nothing, or lies above.
func sign(d api.Dec) int {
	switch {
	case d.Digits == "0":
		return 0
	case d.Neg:
		return -1
	}
	return 1
}
