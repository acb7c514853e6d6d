package render_test

import (
	"math"
	"math/big"
	"strconv"
	"strings"
	"testing"

	"abacus/api"
	"abacus/render"
)

const (
	minus  = api.Sign
	maxInt = 1<<63 - 1
	minInt = -1 << 63
	marks  = "-+ #0" // mark i is the flag 1<<i
	wholes = "diouxX"
	points = "eEfFgG"
	verbs  = wholes + "cs" + points
)

// random: a number from a fixed row (splitmix64), so that every run tests the same.
func random(seed *uint64) uint64 {
	*seed += 0x9e3779b97f4a7c15
	z := *seed
	z = (z ^ z>>30) * 0xbf58476d1ce4e5b9
	z = (z ^ z>>27) * 0x94d049bb133111eb
	return z ^ z>>31
}

// between: a number from low to high.
func between(seed *uint64, low int, high int) int {
	return low + int(random(seed)%uint64(high-low+1))
}

// pick: one of these.
func pick[T any](seed *uint64, list ...T) T { return list[between(seed, 0, len(list)-1)] }

// num: a number as an argument, with a text that doesn't count.
func num(x float64) api.Arg { return api.Arg{Num: math.Float64bits(x), Str: "unseen"} }

// pattern: the double of these bits as an argument.
func pattern(d uint64) api.Arg { return api.Arg{Num: d} }

// str: a text as an argument, with a number that doesn't count.
func str(text string) api.Arg { return api.Arg{Text: true, Num: api.NaN, Str: text} }

// ends: doubles at the ends of their classes and around the powers of two that count here, NaNs and infinities among them, without a sign.
func ends() []uint64 {
	list := []uint64{0, 1, 1<<52 - 1, 1 << 52, api.One - 1, api.One, api.One + 1, api.Most, api.Inf, api.Inf + 1, api.NaN, minus - 1}
	for _, power := range []int{1, 7, 8, 9, 12, 31, 32, 52, 53, 54, 62, 63, 64, 65, 116, 117, 128, 1000} {
		d := math.Float64bits(math.Ldexp(1, power))
		list = append(list, d-1, d, d+1)
	}
	return list
}

// drawDouble: a double of either sign: any pattern, small whole numbers, short fractions, whole numbers around 2^64, the ends.
func drawDouble(seed *uint64) uint64 {
	d := random(seed)
	switch between(seed, 0, 5) {
	case 0:
		d = math.Float64bits(float64(between(seed, 0, 999)))
	case 1:
		d = math.Float64bits(float64(between(seed, 0, 99999)) / 64)
	case 2:
		d = math.Float64bits(math.Ldexp(float64(random(seed)>>11), between(seed, -20, 30)))
	case 3:
		d = pick(seed, ends()...)
	}
	return d ^ random(seed)&minus
}

// finite: whether d is no NaN and no infinity.
func finite(d uint64) bool { return d&api.Inf != api.Inf }

// cut: the whole part of a finite double, with its sign.
func cut(d uint64) *big.Int {
	n, _ := new(big.Float).SetFloat64(math.Float64frombits(d)).Int(nil)
	return n
}

// modulo: n modulo 2^bits, from 0 on.
func modulo(n *big.Int, bits uint) uint64 {
	m := new(big.Int).Lsh(big.NewInt(1), bits)
	return m.Mod(n, m).Uint64() // Mod is Euclid's: never below 0
}

// limbs: the natural of n without its sign.
func limbs(n *big.Int) []uint64 {
	var list []uint64
	for rest := new(big.Int).Abs(n); rest.Sign() != 0; rest.Rsh(rest, 64) {
		list = append(list, modulo(rest, 64))
	}
	return list
}

// spec: the Spec of a directive that is written out.
func spec(text string) api.Spec {
	s := api.Spec{Verb: text[len(text)-1], Prec: -1}
	rest := text[1 : len(text)-1]
	for rest != "" && strings.IndexByte(marks, rest[0]) >= 0 {
		s.Flags |= 1 << strings.IndexByte(marks, rest[0])
		rest = rest[1:]
	}
	width, prec, point := strings.Cut(rest, ".")
	s.Width, _ = strconv.Atoi(width)
	if point {
		s.Prec, _ = strconv.Atoi(prec)
	}
	return s
}

// drawSpec: a Spec of the verb that is right.
func drawSpec(seed *uint64, verb byte) api.Spec {
	s := api.Spec{Verb: verb, Flags: between(seed, 0, 31), Width: between(seed, 0, 30), Prec: between(seed, -1, 25)}
	if random(seed)%64 == 0 {
		s.Width, s.Prec = pick(seed, 0, 4095, 4096), pick(seed, -1, 0, 4095, 4096)
	}
	return s
}

// rawSpecs: Specs whose numbers lie at the bounds and beyond, each with the error that it has if its Verb is right.
func rawSpecs() map[api.Spec]api.Errno {
	list := map[api.Spec]api.Errno{}
	for _, f := range []int{minInt, -1, 0, 1, 31, 32, 1 << 32, maxInt} {
		for _, w := range []int{minInt, -4096, -1, 0, 1, 4096, 4097, 1 << 32, maxInt} {
			for _, p := range []int{minInt, -2, -1, 0, 1, 4096, 4097, 1 << 32, maxInt} {
				e := api.OK
				if w > 4096 || p > 4096 {
					e = api.ErrWide
				}
				if f < 0 || f > 31 || w < 0 || p < -1 {
					e = api.ErrArg
				}
				list[api.Spec{Flags: f, Width: w, Prec: p}] = e
			}
		}
	}
	return list
}

// brief: enough of a text to know it by.
func brief(s string) string {
	if len(s) > 80 {
		return s[:40] + ".." + s[len(s)-40:]
	}
	return s
}

// holdOne: One's answer must be this text and this error.
func holdOne(t *testing.T, s api.Spec, a api.Arg, text string, e api.Errno) {
	t.Helper()
	got, fault := render.One(s, a)
	if got != text || fault != e {
		t.Fatalf("One of %c %+v, text %v, %016x, %q: %q (%d bytes), error %d; want %q (%d bytes), error %d",
			s.Verb, s, a.Text, a.Num, brief(a.Str), brief(got), len(got), fault, brief(text), len(text), e)
	}
}

// holdPieces: the answer of Pieces must be this text and this error.
func holdPieces(t *testing.T, pieces []api.Piece, args []api.Arg, text string, e api.Errno) {
	t.Helper()
	got, fault := render.Pieces(pieces, args)
	if got != text || fault != e {
		t.Fatalf("Pieces of %.300v, %.300v: %q (%d bytes), error %d; want %q (%d bytes), error %d",
			pieces, args, brief(got), len(got), fault, brief(text), len(text), e)
	}
}

// holdSprintf: Sprintf's answer must be this text and this error.
func holdSprintf(t *testing.T, format string, args []api.Arg, text string, e api.Errno) {
	t.Helper()
	got, fault := render.Sprintf(format, args...)
	if got != text || fault != e {
		t.Fatalf("Sprintf of %q, %.300v: %q (%d bytes), error %d; want %q (%d bytes), error %d",
			brief(format), args, brief(got), len(got), fault, brief(text), len(text), e)
	}
}
