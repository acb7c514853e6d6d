package numeral_test

import (
	"fmt"
	"math/big"
	"strings"
	"testing"

	"abacus/api"
	"abacus/numeral"
)

// mixed: a text with every other of its bytes a capital one.
func mixed(s string) string {
	out := []byte(s)
	for i := range out {
		if i%2 == 0 {
			out[i] = strings.ToUpper(s[i : i+1])[0]
		}
	}
	return string(out)
}

// P3.2: FromBase in every base, with small, capital and mixed letters, with zeros at the head.
func TestFromBase(t *testing.T) {
	for base := 2; base <= 36; base++ {
		lists := append(samples(), zeros()...)
		for _, n := range []int{1, 2, 12, 13, 19, 20, 25, 38, 39, 62, 63, 64, 65, 126, 127, 200} {
			lists = append(lists, aroundPowers(base, n)...)
		}
		for _, a := range lists {
			s := spelled(a, base, false)
			want := list(number(a))
			for _, written := range []string{s, strings.ToUpper(s), mixed(s), "0" + s, strings.Repeat("0", 77) + s} {
				got, at, e := numeral.FromBase(written, base)
				limbs(t, fmt.Sprintf("FromBase(%q, %d)", brief(written), base), got, at, e, want)
			}
		}
	}
}

// P3.2: the chapter's examples.
func TestFromBaseExamples(t *testing.T) {
	rows := []struct {
		s    string
		base int
		want []uint64
	}{
		{"Zz", 36, []uint64{1295}},
		{"007", 8, []uint64{7}},
		{"0", 2, nil},
		{"18446744073709551616", 10, []uint64{0, 1}},
		{"0x1f", 34, []uint64{33*34*34 + 34 + 15}},
		{"00000000000000000000000000000000000000000000000000", 36, nil},
	}
	for _, r := range rows {
		got, at, e := numeral.FromBase(r.s, r.base)
		limbs(t, fmt.Sprintf("FromBase(%q, %d)", r.s, r.base), got, at, e, r.want)
	}
	got, at, e := numeral.FromBase("18", 8)
	noLimbs(t, "18 in base 8", got, at, e, 1, api.ErrDigit)
	got, at, e = numeral.FromBase("0x1f", 16)
	noLimbs(t, "a prefix", got, at, e, 1, api.ErrDigit)
	got, at, e = numeral.Read("-1")
	noLimbs(t, "a sign", got, at, e, 0, api.ErrDigit)
}

// P3.2: Read answers what FromBase answers in base 10.
func TestRead(t *testing.T) {
	for _, s := range []string{"", "0", "00", "9", "0123456789", "18446744073709551615", "18446744073709551616", "12a4", "+1", " 1", "1 ", "1.5", "1e5", "\x00", "٣", strings.Repeat("9", 1000), strings.Repeat("9", 80000), strings.Repeat("9", 80000) + "x"} {
		got, at, e := numeral.Read(s)
		want, wantAt, wantE := numeral.FromBase(s, 10)
		if number(got).Cmp(number(want)) != 0 || at != wantAt || e != wantE {
			t.Errorf("Read(%q) is %.60v, %d, %d; want %.60v, %d, %d", brief(s), got, at, e, want, wantAt, wantE)
		}
	}
	got, at, e := numeral.Read("18446744073709551616")
	limbs(t, "Read(2^64)", got, at, e, []uint64{0, 1})
}

// P3.2: every byte in every base is a digit or not, as the chapter's list says; at the head, amid and at the end.
func TestEveryByte(t *testing.T) {
	for c := range 256 {
		worth := strings.IndexByte(letters, byte(c))
		if 'A' <= c && c <= 'Z' {
			worth = strings.IndexByte(letters, byte(c)-'A'+'a')
		}
		b := string([]byte{byte(c)})
		for base := 2; base <= 36; base++ {
			for at, s := range []string{b, "1" + b, "10" + b + "1", "011" + b} {
				got, place, e := numeral.FromBase(s, base)
				what := fmt.Sprintf("FromBase(%q, %d)", s, base)
				if worth < 0 || worth >= base {
					noLimbs(t, what, got, place, e, at, api.ErrDigit)
					continue
				}
				want, _ := new(big.Int).SetString(s, base)
				limbs(t, what, got, place, e, list(want))
			}
		}
	}
}

// P3.2: of several wrong bytes the first one's place is told, wherever it stands.
func TestFirstWrongByte(t *testing.T) {
	for _, n := range []int{0, 1, 18, 19, 20, 37, 38, 39, 1000, 300000} {
		s := strings.Repeat("1", n) + "-"
		for _, rest := range []string{"", "1", "--", "x1", strings.Repeat("\xff", 50)} {
			for _, base := range []int{2, 10, 16, 33} {
				got, at, e := numeral.FromBase(s+rest, base)
				noLimbs(t, "a wrong byte", got, at, e, n, api.ErrDigit)
			}
			got, at, e := numeral.Read(s + rest)
			noLimbs(t, "a wrong byte", got, at, e, n, api.ErrDigit)
		}
	}
}

// P3.2: which error comes first: the base, no byte, a wrong byte, too big.
func TestFromBaseOrder(t *testing.T) {
	big := strings.Repeat("1", maxBits+1)
	for _, base := range []int{minInt, -16, -1, 0, 1, 37, 256 + 10, maxInt} {
		for _, s := range []string{"", "0", "1", "!", big, big + "!"} {
			got, at, e := numeral.FromBase(s, base)
			noLimbs(t, fmt.Sprintf("base %d", base), got, at, e, 0, api.ErrBase)
		}
	}
	for base := 2; base <= 36; base++ {
		got, at, e := numeral.FromBase("", base)
		noLimbs(t, "no byte", got, at, e, 0, api.ErrEmpty)
		got, at, e = numeral.FromBase(big, base)
		noLimbs(t, "too big", got, at, e, 0, api.ErrBig)
		got, at, e = numeral.FromBase(big+"!", base)
		noLimbs(t, "too big and a wrong byte", got, at, e, len(big), api.ErrDigit)
	}
	got, at, e := numeral.Read("")
	noLimbs(t, "Read of no byte", got, at, e, 0, api.ErrEmpty)
}

// P3.2: the limit in base 16, as the chapter's examples have it.
func TestFromBaseSixteenAtLimit(t *testing.T) {
	want := make([]uint64, api.MaxLimbs)
	want[api.MaxLimbs-1] = 1 << 60
	zeros := strings.Repeat("0", 65535)
	got, at, e := numeral.FromBase("1"+zeros, 16)
	limbs(t, "a 1 and 65535 zeros", got, at, e, want)
	got, at, e = numeral.FromBase(zeros+"01"+zeros, 16)
	limbs(t, "zeros, a 1 and 65535 zeros", got, at, e, want)
	got, at, e = numeral.FromBase("1"+zeros+"0", 16)
	noLimbs(t, "a 1 and 65536 zeros", got, at, e, 0, api.ErrBig)
	got, at, e = numeral.FromBase("1"+zeros+"0g", 16)
	noLimbs(t, "a 1, 65536 zeros and a g", got, at, e, 65537, api.ErrDigit)
}

// P3.2, P3.3: in every base the greatest natural is read back from what InBase wrote, and the next one is too big.
func TestLimitInEveryBase(t *testing.T) {
	greatest := fill(api.MaxLimbs, top)
	beyond := new(big.Int).Lsh(big.NewInt(1), maxBits)
	for base := 2; base <= 36; base++ {
		t.Run(fmt.Sprint(base), func(t *testing.T) {
			t.Parallel()
			s, e := numeral.InBase(greatest, base, base%2 == 1)
			if e != api.OK {
				t.Fatalf("error %d", e)
			}
			got, at, e := numeral.FromBase(s, base)
			limbs(t, "the greatest natural", got, at, e, greatest)
			got, at, e = numeral.FromBase(beyond.Text(base), base)
			noLimbs(t, "2^262144", got, at, e, 0, api.ErrBig)
			got, at, e = numeral.FromBase("00"+beyond.Text(base), base)
			noLimbs(t, "2^262144 behind zeros", got, at, e, 0, api.ErrBig)
		})
	}
}

// P3.2: a text may be of any length, and zeros at its head add nothing.
func TestLongText(t *testing.T) {
	zeros := strings.Repeat("0", 3<<20)
	got, at, e := numeral.Read(zeros)
	limbs(t, "zeros", got, at, e, nil)
	got, at, e = numeral.FromBase(zeros+"zZ", 36)
	limbs(t, "zeros and zZ", got, at, e, []uint64{1295})
	got, at, e = numeral.FromBase("1"+zeros, 2)
	noLimbs(t, "a 1 and zeros", got, at, e, 0, api.ErrBig)
	got, at, e = numeral.FromBase("1"+zeros+"2", 2)
	noLimbs(t, "a 1, zeros and a 2", got, at, e, len(zeros)+1, api.ErrDigit)
}

// P3.3: there and back, for every base, both cases.
func TestThereAndBack(t *testing.T) {
	for base := 2; base <= 36; base++ {
		for _, a := range append(samples(), zeros()...) {
			for _, upper := range []bool{false, true} {
				s, _ := numeral.InBase(a, base, upper)
				got, at, e := numeral.FromBase(s, base)
				limbs(t, fmt.Sprintf("%q in base %d", brief(s), base), got, at, e, list(number(a)))
			}
		}
	}
}

// P3.3: back and there: the text without its zeros at the head, in small letters.
func TestBackAndThere(t *testing.T) {
	rows := []struct {
		s    string
		base int
		want string
	}{
		{"0", 2, "0"},
		{"0000", 36, "0"},
		{"0010", 2, "10"},
		{"AbCdEf", 16, "abcdef"},
		{"00ABC000000000000000000000000000000000000000", 13, "abc000000000000000000000000000000000000000"},
		{"Zyxwvutsrqponmlkjihgfedcba9876543210", 36, "zyxwvutsrqponmlkjihgfedcba9876543210"},
		{"000000000000000000000000000000000000000000000000000000000000000000000000000001", 3, "1"},
	}
	for _, r := range rows {
		a, _, _ := numeral.FromBase(r.s, r.base)
		got, e := numeral.InBase(a, r.base, false)
		text(t, r.s, got, e, r.want)
	}
}
