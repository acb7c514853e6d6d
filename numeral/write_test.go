package numeral_test

import (
	"fmt"
	"math/big"
	"strings"
	"testing"

	"abacus/api"
	"abacus/numeral"
)

// P3.1: InBase in every base and both cases, over samples and around the powers at which a digit is added.
func TestInBase(t *testing.T) {
	for base := 2; base <= 36; base++ {
		lists := append(samples(), zeros()...)
		for _, n := range []int{1, 2, 11, 12, 13, 15, 16, 19, 20, 24, 25, 26, 31, 32, 38, 39, 40, 62, 63, 64, 65, 76, 126, 127, 200} {
			lists = append(lists, aroundPowers(base, n)...)
		}
		for _, a := range lists {
			for _, upper := range []bool{false, true} {
				got, e := numeral.InBase(a, base, upper)
				text(t, fmt.Sprintf("InBase(%.60v, %d, %v)", a, base, upper), got, e, spelled(a, base, upper))
			}
		}
	}
}

// P3.1: the chapter's examples.
func TestInBaseExamples(t *testing.T) {
	rows := []struct {
		a     []uint64
		base  int
		upper bool
		want  string
	}{
		{[]uint64{255}, 16, false, "ff"},
		{[]uint64{255}, 16, true, "FF"},
		{[]uint64{255}, 2, false, "11111111"},
		{[]uint64{35}, 36, true, "Z"},
		{nil, 7, false, "0"},
		{[]uint64{0, 0}, 7, true, "0"},
		{[]uint64{0, 1}, 16, false, "10000000000000000"},
		{[]uint64{0, 1}, 10, true, "18446744073709551616"},
	}
	for _, r := range rows {
		got, e := numeral.InBase(r.a, r.base, r.upper)
		text(t, fmt.Sprintf("InBase(%v, %d, %v)", r.a, r.base, r.upper), got, e, r.want)
	}
}

// P3.1: each digit has its letter, small or capital.
func TestLetters(t *testing.T) {
	for n := range 36 {
		for base := max(n+1, 2); base <= 36; base++ {
			got, e := numeral.InBase([]uint64{uint64(n)}, base, false)
			text(t, "small", got, e, letters[n:n+1])
			got, e = numeral.InBase([]uint64{uint64(n)}, base, true)
			text(t, "capital", got, e, strings.ToUpper(letters[n:n+1]))
		}
	}
}

// P3.1: Digits answers what InBase answers in base 10, errors too.
func TestDigits(t *testing.T) {
	lists := append(append(samples(), zeros()...), fill(api.MaxLimbs, top), fill(api.MaxLimbs+1, top))
	for _, a := range lists {
		got, e := numeral.Digits(a)
		want, wantE := numeral.InBase(a, 10, false)
		if got != want || e != wantE {
			t.Errorf("Digits(%.60v) is %q, error %d; want %q, error %d", a, brief(got), e, brief(want), wantE)
		}
	}
	got, e := numeral.Digits([]uint64{0, 1})
	text(t, "Digits(2^64)", got, e, "18446744073709551616")
	got, e = numeral.Digits(under([]uint64{1}, api.MaxLimbs))
	text(t, "Digits(1 and 4096 limbs of 0)", got, e, "1")
}

// P3.1: naturals at the limit are written in every base; the highest limb may be small or great.
func TestInBaseAtLimit(t *testing.T) {
	seed := uint64(7)
	odd := random(&seed, api.MaxLimbs)
	odd[api.MaxLimbs-1] = 1
	lists := [][]uint64{fill(api.MaxLimbs, top), under(odd, 3)}
	for base := 2; base <= 36; base++ {
		t.Run(fmt.Sprint(base), func(t *testing.T) {
			t.Parallel()
			for _, a := range lists {
				got, e := numeral.InBase(a, base, base%2 == 0)
				text(t, "InBase", got, e, spelled(a, base, base%2 == 0))
			}
		})
	}
}

// P3.1: what InBase and Digits refuse, and in which order: too big ahead of the base.
func TestInBaseRefuses(t *testing.T) {
	for _, base := range []int{minInt, -36, -10, -2, -1, 0, 1, 37, 64, 256 + 10, maxInt} {
		for _, a := range [][]uint64{nil, {0}, {5}, {0, 1}, fill(api.MaxLimbs, top)} {
			got, e := numeral.InBase(a, base, false)
			noText(t, fmt.Sprintf("base %d", base), got, e, api.ErrBase)
		}
		got, e := numeral.InBase(fill(api.MaxLimbs+1, 1), base, true)
		noText(t, fmt.Sprintf("too big, base %d", base), got, e, api.ErrBig)
	}
	two := make([]uint64, api.MaxLimbs+1)
	two[api.MaxLimbs] = 1
	for _, a := range [][]uint64{two, under(two, 2), fill(api.MaxLimbs+1, top), fill(2*api.MaxLimbs, 1)} {
		for base := 2; base <= 36; base++ {
			got, e := numeral.InBase(a, base, base%2 == 0)
			noText(t, fmt.Sprintf("too big, base %d", base), got, e, api.ErrBig)
		}
		got, e := numeral.Digits(a)
		noText(t, "Digits of too big", got, e, api.ErrBig)
	}
}

// P3.1: Count is the length of what Digits answers.
func TestCount(t *testing.T) {
	lists := append(append(samples(), zeros()...), fill(api.MaxLimbs, top), under(fill(400, 1), 9))
	for _, a := range lists {
		n, e := numeral.Count(a)
		if want := len(spelled(a, 10, false)); n != want || e != api.OK {
			t.Errorf("Count(%.60v) is %d, error %d; want %d", a, n, e, want)
		}
	}
	for _, a := range [][]uint64{fill(api.MaxLimbs+1, 1), under(fill(api.MaxLimbs+1, top), 1)} {
		if n, e := numeral.Count(a); n != 0 || e != api.ErrBig {
			t.Errorf("Count of too big is %d, error %d", n, e)
		}
	}
}

// P3.4: the count changes just at the powers of ten, up to the limit.
func TestCountAtPowers(t *testing.T) {
	most := len(new(big.Int).Lsh(big.NewInt(1), maxBits).Text(10)) - 1
	for _, n := range []int{1, 2, 3, 9, 18, 19, 20, 21, 38, 39, 40, 57, 58, 100, 308, 1000, 4999, 19728, most - 1, most} {
		for i, a := range aroundPowers(10, n) {
			want := n + 1
			if i == 0 {
				want = n
			}
			if got, e := numeral.Count(a); got != want || e != api.OK {
				t.Errorf("Count(10^%d%+d) is %d, error %d; want %d", n, i-1, got, e, want)
			}
		}
	}
}
