package whole_test

import (
	"testing"

	"abacus/api"
	"abacus/whole"
)

// P14.3: the document's examples, and the meetings of Hash, width and precision.
func TestUnsignedExamples(t *testing.T) {
	for _, c := range []struct {
		spec string
		u    uint64
		want string
	}{
		{"%o", 8, "10"}, {"%#o", 8, "010"}, {"%#o", 0, "0"}, {"%#.0o", 0, "0"}, {"%.0o", 0, ""}, {"%#.3o", 8, "010"}, {"%#.2o", 8, "010"}, {"%#.1o", 8, "010"}, {"%#.4o", 8, "0010"}, {"%#.1o", 0, "0"}, {"%#.2o", 0, "00"}, {"%#5.0o", 0, "    0"}, {"%#05o", 8, "00010"}, {"%#-5o", 8, "010  "}, {"%#5o", 8, "  010"}, {"%#03o", 8, "010"}, {"%#02o", 8, "010"},
		{"%x", 255, "ff"}, {"%X", 255, "FF"}, {"%#x", 255, "0xff"}, {"%#X", 255, "0XFF"}, {"%#x", 0, "0"}, {"%#X", 0, "0"}, {"%#.0x", 0, ""}, {"%#.3x", 0, "000"}, {"%#8x", 255, "    0xff"}, {"%#08x", 255, "0x0000ff"}, {"%#08X", 255, "0X0000FF"}, {"%08x", 255, "000000ff"}, {"%#.4x", 255, "0x00ff"}, {"%#08.4x", 255, "  0x00ff"}, {"%#-8x", 255, "0xff    "}, {"%#-08x", 255, "0xff    "}, {"%#03x", 255, "0xff"}, {"%#08x", 0, "00000000"}, {"%#8.0X", 0, "        "},
		{"%x", 0xabcdef0123456789, "abcdef0123456789"}, {"%X", 0xabcdef0123456789, "ABCDEF0123456789"},
		{"%u", 18446744073709551615, "18446744073709551615"}, {"%x", top, "ffffffffffffffff"}, {"%o", top, "1777777777777777777777"}, {"%#o", top, "01777777777777777777777"}, {"%#X", top, "0XFFFFFFFFFFFFFFFF"}, {"%o", 1 << 63, "1000000000000000000000"}, {"%u", 1 << 63, "9223372036854775808"}, {"%x", 1 << 63, "8000000000000000"},
		{"%+u", 7, "7"}, {"% u", 7, "7"}, {"%#u", 7, "7"}, {"%+ #x", 7, "0x7"}, {"%+ o", 7, "7"}, {"%u", 0, "0"}, {"%.0u", 0, ""}, {"%3.0u", 0, "   "}, {"%#.0u", 0, ""}, {"%+.0u", 0, ""}, {"%05u", 7, "00007"}, {"%05.2u", 7, "   07"}, {"%-05u", 7, "7    "},
	} {
		s := spec(c.spec)
		got, e := whole.Unsigned(s, c.u)
		hold(t, s, c.u, got, e, c.want)
	}
}

// P14.3: all flags at all small widths and precisions, the four verbs.
func TestUnsignedAll(t *testing.T) {
	for _, verb := range []byte("ouxX") {
		for _, s := range specs(verb, 8, 6) {
			for _, u := range []uint64{0, 1, 7, 8, 9, 10, 15, 16, 63, 64, 255, 256, 0xabc, 4095, 99999} {
				got, e := whole.Unsigned(s, u)
				hold(t, s, u, got, e, unsigned(s, u))
			}
		}
	}
}

// P14.3: each bit alone, all bits up to it and beyond, and drawn numbers, by drawn Specs.
func TestUnsignedDrawn(t *testing.T) {
	seed := uint64(143)
	for i := range 60000 {
		bit := uint64(1) << (i % 64)
		u := pick(&seed, bit, bit-1, ^(bit - 1), bit+1, random(&seed), random(&seed)&(bit-1))
		s := api.Spec{Verb: pick[byte](&seed, 'o', 'u', 'x', 'X'), Flags: between(&seed, 0, 31), Width: pick(&seed, 0, between(&seed, 0, 30), between(&seed, 0, 200)), Prec: pick(&seed, -1, 0, between(&seed, -1, 30), between(&seed, 0, 200))}
		got, e := whole.Unsigned(s, u)
		hold(t, s, u, got, e, unsigned(s, u))
	}
}

// P14.3: widths and precisions at their limit; a head or a mark is beside them.
func TestUnsignedEdges(t *testing.T) {
	for _, verb := range []string{"o", "u", "x", "X"} {
		for _, text := range []string{"%4096", "%-4096", "%04096", "%.4096", "%#.4096", "%#4096.4096", "%#4096.4095", "%#04096", "%#4096.4094", "%#-4096.4093", "%4095.4096"} {
			for _, u := range []uint64{0, 5, 0xdeadbeef, top} {
				s := spec(text + verb)
				got, e := whole.Unsigned(s, u)
				hold(t, s, u, got, e, unsigned(s, u))
			}
		}
	}
	if got, e := whole.Unsigned(spec("%#4096.4096x"), 1); len(got) != 4098 || e != api.OK {
		t.Errorf("a head beside the longest body: %d bytes, %d", len(got), e)
	}
}
