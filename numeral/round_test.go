package numeral_test

import (
	"fmt"
	"math/big"
	"strings"
	"testing"

	"abacus/api"
	"abacus/numeral"
)

// rounded: what Round must answer, worked out in whole numbers: the row divided by the weight of its first dropped place.
func rounded(digits string, keep int, more bool) (string, bool) {
	if keep >= len(digits) {
		return digits, false
	}
	row, _ := new(big.Int).SetString(digits, 10)
	unit := new(big.Int).Exp(big.NewInt(10), big.NewInt(int64(len(digits)-keep)), nil)
	q, r := new(big.Int).QuoRem(row, unit, new(big.Int))
	side := r.Lsh(r, 1).Cmp(unit)
	if side > 0 || side == 0 && (more || q.Bit(0) == 1) {
		q.Add(q, big.NewInt(1))
	}
	all := fmt.Sprintf("%0*s", keep+1, q.Text(10))
	return all[len(all)-keep:], all[0] == '1' && len(all) == keep+1
}

func checkRound(t *testing.T, digits string, keep int, more bool) {
	t.Helper()
	want, carry := rounded(digits, keep, more)
	if got, c, e := numeral.Round(digits, keep, more); got != want || c != carry || e != api.OK {
		t.Errorf("Round(%q, %d, %v) is %q, %v, error %d; want %q, %v", brief(digits), keep, more, brief(got), c, e, brief(want), carry)
	}
}

// P3.5: every row of up to four digits, every keep, with and without more.
func TestRoundShortRows(t *testing.T) {
	for n, count := 1, 10; n <= 4; n, count = n+1, count*10 {
		for row := range count {
			digits := fmt.Sprintf("%0*d", n, row)
			for keep := range n + 2 {
				checkRound(t, digits, keep, false)
				checkRound(t, digits, keep, true)
			}
		}
	}
}

// P3.5: long rows: ties, nearly ties, carries that run far or out at the front.
func TestRoundLongRows(t *testing.T) {
	for _, head := range []string{"", "0", "1", "9", "00", "09", "89", "99", "123", "1999999999999999999999", "0099999999999999999999", strings.Repeat("9", 1000), strings.Repeat("7", 1000)} {
		for _, middle := range []string{"", "5", "4", "6", "8", "9"} {
			for _, tail := range []string{"0", "5", "50", "51", "49", "5000000000000000000000000000", "5000000000000000000000000001", "4999999999999999999999999999", "9999999999999999999999999999"} {
				digits := head + middle + tail
				for _, keep := range []int{0, len(head), len(head + middle), len(digits) - 1, len(digits), maxInt} {
					checkRound(t, digits, keep, false)
					checkRound(t, digits, keep, true)
				}
			}
		}
	}
}

// P3.5: the chapter's examples.
func TestRoundExamples(t *testing.T) {
	rows := []struct {
		digits string
		keep   int
		more   bool
		want   string
		carry  bool
		e      api.Errno
	}{
		{"12345", 3, false, "123", false, api.OK},
		{"1235", 3, false, "124", false, api.OK},
		{"1225", 3, false, "122", false, api.OK},
		{"1225", 3, true, "123", false, api.OK},
		{"9996", 3, false, "000", true, api.OK},
		{"5", 0, false, "", false, api.OK},
		{"5", 0, true, "", true, api.OK},
		{"51", 0, false, "", true, api.OK},
		{"12", 2, true, "12", false, api.OK},
		{"12", 7, true, "12", false, api.OK},
		{"", 0, false, "", false, api.ErrEmpty},
		{"1x", 0, false, "", false, api.ErrDigit},
		{"1x", -1, false, "", false, api.ErrArg},
	}
	for _, r := range rows {
		if got, c, e := numeral.Round(r.digits, r.keep, r.more); got != r.want || c != r.carry || e != r.e {
			t.Errorf("Round(%q, %d, %v) is %q, %v, error %d; want %q, %v, error %d", r.digits, r.keep, r.more, got, c, e, r.want, r.carry, r.e)
		}
	}
}

// P3.5: what Round refuses, and in which order: keep, no byte, a wrong byte anywhere.
func TestRoundRefuses(t *testing.T) {
	refused := func(digits string, keep int, want api.Errno) {
		t.Helper()
		for _, more := range []bool{false, true} {
			got, carry, e := numeral.Round(digits, keep, more)
			noText(t, fmt.Sprintf("Round(%q, %d, %v)", brief(digits), keep, more), got, e, want)
			if carry {
				t.Errorf("Round(%q, %d, %v): a carry", brief(digits), keep, more)
			}
		}
	}
	for _, keep := range []int{minInt, -2, -1} {
		for _, digits := range []string{"", "9", "x", "99999", strings.Repeat("9", 5000)} {
			refused(digits, keep, api.ErrArg)
		}
	}
	for _, keep := range []int{0, 1, 2, 100, maxInt} {
		refused("", keep, api.ErrEmpty)
		for c := range 256 {
			if '0' <= c && c <= '9' {
				continue
			}
			b := string([]byte{byte(c)})
			for _, digits := range []string{b, b + "99", "9" + b + "9", "99" + b, strings.Repeat("9", 100) + b} {
				refused(digits, keep, api.ErrDigit)
			}
		}
	}
}

// P3.5: a row may be of any length; the last digit of it can tip the scales.
func TestRoundVeryLong(t *testing.T) {
	zeros := strings.Repeat("0", 2<<20)
	rows := []struct {
		digits string
		more   bool
		want   string
	}{
		{"125" + zeros, false, "12"},
		{"125" + zeros + "1", false, "13"},
		{"125" + zeros, true, "13"},
		{"124" + strings.Repeat("9", 2<<20), true, "12"},
		{"135" + zeros, false, "14"},
	}
	for _, r := range rows {
		got, carry, e := numeral.Round(r.digits, 2, r.more)
		text(t, "a very long row", got, e, r.want)
		if carry {
			t.Error("a very long row: a carry")
		}
	}
	nines := strings.Repeat("9", 2<<20)
	got, carry, e := numeral.Round(nines+"5", len(nines), false)
	text(t, "nines", got, e, zeros)
	if !carry {
		t.Error("nines: no carry")
	}
}
