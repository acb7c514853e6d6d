package numeral

import (
	"strings"

	"abacus/api"
)

// Round: the first keep digits of a row, rounded by the rest (half to even; more: something above zero stands behind the row), and whether a digit was carried out at the front; ErrArg, ErrEmpty, ErrDigit.
func Round(digits string, keep int, more bool) (string, bool, api.Errno) {
	switch {
	case keep < 0:
		return "", false, api.ErrArg
	case digits == "":
		return "", false, api.ErrEmpty
	case wrong(digits, 10) >= 0:
		return "", false, api.ErrDigit
	case keep >= len(digits):
		return strings.Clone(digits), false, api.OK
	}
	out := []byte(digits[:keep])
	carry := upward(out, digits[keep:], more) && raise(out)
	return string(out), carry, api.OK
}

// upward: whether the digits that are dropped, one at least, take the kept ones to the next greater number.
func upward(kept []byte, dropped string, more bool) bool {
	switch {
	case dropped[0] != '5':
		return dropped[0] > '5'
	case more || strings.Trim(dropped[1:], "0") != "":
		return true
	}
	return len(kept) > 0 && kept[len(kept)-1]%2 == 1
}

// raise adds one unit of the last place, and answers whether it was carried out at the front: from no digits it always is.
func raise(digits []byte) bool {
	for i := len(digits) - 1; i >= 0; i-- {
		if digits[i] != '9' {
			digits[i]++
			return false
		}
		digits[i] = '0'
	}
	return true
}
