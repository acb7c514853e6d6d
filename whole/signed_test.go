package whole_test

import (
	"math/big"
	"strings"
	"testing"

	"abacus/api"
	"abacus/whole"
)

// P14.2: the document's examples, and the meetings of flags, width and precision.
func TestSignedExamples(t *testing.T) {
	for _, c := range []struct {
		spec string
		neg  bool
		n    []uint64
		want string
	}{
		{"%d", false, []uint64{42}, "42"}, {"%d", true, []uint64{42}, "-42"},
		{"%5d", false, []uint64{42}, "   42"}, {"%5d", true, []uint64{42}, "  -42"},
		{"%-5d", false, []uint64{42}, "42   "}, {"%-5d", true, []uint64{42}, "-42  "},
		{"%05d", false, []uint64{42}, "00042"}, {"%05d", true, []uint64{42}, "-0042"},
		{"%+d", false, []uint64{42}, "+42"}, {"% d", false, []uint64{42}, " 42"}, {"%+ d", false, []uint64{42}, "+42"},
		{"%+d", true, []uint64{42}, "-42"}, {"% d", true, []uint64{42}, "-42"}, {"%+ d", true, []uint64{42}, "-42"},
		{"%.5d", false, []uint64{42}, "00042"}, {"%.5d", true, []uint64{42}, "-00042"}, {"%8.5d", false, []uint64{42}, "   00042"}, {"%08.5d", false, []uint64{42}, "   00042"}, {"%-08.5d", true, []uint64{42}, "-00042  "},
		{"%-05d", false, []uint64{42}, "42   "}, {"%.0d", false, []uint64{42}, "42"}, {"%.1d", false, []uint64{42}, "42"}, {"%08.0d", false, []uint64{42}, "      42"},
		{"%+05d", false, []uint64{42}, "+0042"}, {"% 05d", false, []uint64{42}, " 0042"}, {"%+8.3d", false, []uint64{42}, "    +042"},
		{"%#d", false, []uint64{42}, "42"}, {"%i", true, []uint64{42}, "-42"}, {"%+-8i", false, []uint64{42}, "+42     "},
		{"%d", false, []uint64{0, 1}, "18446744073709551616"}, {"%d", true, []uint64{0, 1}, "-18446744073709551616"}, {"%d", false, []uint64{top}, "18446744073709551615"}, {"%022d", true, []uint64{0, 1}, "-018446744073709551616"},
	} {
		s := spec(c.spec)
		got, e := whole.Signed(s, c.neg, c.n)
		hold(t, s, c.n, got, e, c.want)
	}
}

// P14.2: nothing in its spellings, with neg or without, has no minus, and no digit at the precision 0.
func TestSignedNothing(t *testing.T) {
	for _, c := range []struct{ spec, want string }{
		{"%d", "0"}, {"%.0d", ""}, {"%5.0d", "     "}, {"%05.0d", "     "}, {"%-5.0d", "     "}, {"%+.0d", "+"}, {"% .0d", " "}, {"%+5.0d", "    +"}, {"%-+5.0d", "+    "}, {"%+d", "+0"}, {"% d", " 0"}, {"%3d", "  0"}, {"%03d", "000"}, {"%+05d", "+0000"}, {"%.1d", "0"}, {"%.3d", "000"}, {"%05.3d", "  000"}, {"%#.0i", ""},
	} {
		for _, n := range [][]uint64{nil, {}, {0}, {0, 0}, make([]uint64, api.MaxLimbs+9)} {
			for _, neg := range []bool{false, true} {
				s := spec(c.spec)
				got, e := whole.Signed(s, neg, n)
				hold(t, s, n, got, e, c.want)
			}
		}
	}
}

// P14.2: all flags at all small widths and precisions, both verbs.
func TestSignedAll(t *testing.T) {
	for _, verb := range []byte("di") {
		for _, s := range specs(verb, 7, 6) {
			for _, u := range []uint64{0, 1, 7, 9, 10, 42, 99, 100, 9999, 12345} {
				for _, neg := range []bool{false, true} {
					got, e := whole.Signed(s, neg, []uint64{u})
					hold(t, s, u, got, e, signed(s, neg, new(big.Int).SetUint64(u)))
				}
			}
		}
	}
}

// P14.2: drawn naturals of many sizes, high zero limbs among them, by drawn Specs.
func TestSignedDrawn(t *testing.T) {
	seed := uint64(142)
	for range 20000 {
		n := make([]uint64, pick(&seed, 0, 1, 1, 2, 3, between(&seed, 4, 40)))
		for i := range n {
			n[i] = pick(&seed, 0, 1, top, 1<<63, random(&seed), random(&seed)>>between(&seed, 0, 63))
		}
		s := api.Spec{Verb: pick[byte](&seed, 'd', 'i'), Flags: between(&seed, 0, 31), Width: pick(&seed, 0, 1, between(&seed, 0, 50), between(&seed, 0, 900)), Prec: pick(&seed, -1, -1, 0, between(&seed, 0, 50), between(&seed, 0, 900))}
		neg := pick(&seed, false, true)
		got, e := whole.Signed(s, neg, n)
		hold(t, s, n, got, e, signed(s, neg, meant(n)))
	}
}

// P14.2: around the powers of ten, where the count of digits changes.
func TestSignedPowersOfTen(t *testing.T) {
	for n := range 60 {
		nines, more := strings.Repeat("9", n+1), "1"+strings.Repeat("0", n+1)
		for _, digits := range []string{nines, more, more[:n+1] + "1"} {
			v, _ := new(big.Int).SetString(digits, 10)
			a := limbsOf(v)
			for _, c := range []struct{ text, want string }{{"%d", "-" + digits}, {"%070d", "-" + strings.Repeat("0", 69-len(digits)) + digits}, {"%.70d", "-" + strings.Repeat("0", 70-len(digits)) + digits}, {"%70.0d", strings.Repeat(" ", 69-len(digits)) + "-" + digits}} {
				s := spec(c.text)
				got, e := whole.Signed(s, true, a)
				hold(t, s, digits, got, e, c.want)
			}
		}
	}
}

// limbsOf: the list of v, with a high zero limb.
func limbsOf(v *big.Int) []uint64 {
	var a []uint64
	for v = new(big.Int).Set(v); v.Sign() != 0; v.Rsh(v, 64) {
		a = append(a, new(big.Int).And(v, new(big.Int).SetUint64(top)).Uint64())
	}
	return append(a, 0)
}

// P14.2: the greatest natural, widths and precisions at their limit, and a limb too many: that comes behind a Spec's errors.
func TestSignedEdges(t *testing.T) {
	for _, n := range [][]uint64{limbs(api.MaxLimbs, top), append(limbs(api.MaxLimbs, top), 0, 0, 0), append(make([]uint64, api.MaxLimbs-1), 1)} {
		for _, text := range []string{"%d", "%+4096.4096d", "%-4096i", "%04096d"} {
			s := spec(text)
			got, e := whole.Signed(s, true, n)
			hold(t, s, len(n), got, e, "-"+meant(n).Text(10))
		}
	}
	for _, text := range []string{"%4096d", "%-4096d", "%04096d", "%.4096d", "%+4096.4096d", "% .4095i", "%4096.4095d", "%-4096.4094d", "%4095.4096d"} {
		for _, u := range []uint64{0, 5, top} {
			for _, neg := range []bool{false, true} {
				s := spec(text)
				got, e := whole.Signed(s, neg, []uint64{u})
				hold(t, s, u, got, e, signed(s, neg, new(big.Int).SetUint64(u)))
			}
		}
	}
	big := append(make([]uint64, api.MaxLimbs), 1)
	for s, want := range map[api.Spec]api.Errno{
		{Verb: 'd', Prec: -1}: api.ErrBig, {Verb: 'i', Flags: 31, Width: 4096, Prec: 4096}: api.ErrBig,
		{Verb: 'd', Width: 4097}: api.ErrWide, {Verb: 'd', Prec: 4097}: api.ErrWide, {Verb: 'd', Flags: 32}: api.ErrArg, {Verb: 'd', Width: -1, Prec: 4097}: api.ErrArg, {Verb: 'x', Flags: 32}: api.ErrSpec, {Verb: 'u'}: api.ErrSpec,
	} {
		for _, n := range [][]uint64{big, limbs(api.MaxLimbs+1, top), append(limbs(api.MaxLimbs+200, 1), 0)} {
			got, e := whole.Signed(s, false, n)
			refuse(t, "a big Signed", s, got, e, want)
		}
	}
}
