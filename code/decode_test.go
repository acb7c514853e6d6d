package code_test

import (
	"bytes"
	"encoding/binary"
	"slices"
	"testing"

	"abacus/api"
	"abacus/code"
)

// stop: why a reading ended early, and where.
type stop struct{ at int }

// decoded: what Decode must answer, by the library's means: a fault is a panic.
func decoded(b []byte) (c api.Code, at int, e api.Errno) {
	defer func() {
		if s, ok := recover().(stop); ok {
			c, at, e = api.Code{}, s.at, api.ErrBytes
		}
	}()
	place := 0
	piece := func(count int) []byte {
		if place+count > len(b) {
			panic(stop{len(b)})
		}
		place += count
		return b[place-count : place]
	}
	number := func() int {
		from := b[place:]
		switch n, used := binary.Uvarint(from[:min(5, len(from))]); {
		case used == 0 && len(from) < 5:
			panic(stop{len(b)})
		case used <= 0, n >= 1<<31, len(binary.AppendUvarint(nil, n)) != used:
			panic(stop{place})
		default:
			place += used
			return int(n)
		}
	}
	for i := range 4 {
		if piece(1)[0] != "ABC1"[i] {
			panic(stop{i})
		}
	}
	for range number() {
		c.Nums = append(c.Nums, binary.LittleEndian.Uint64(piece(8)))
	}
	for range number() {
		c.Strs = append(c.Strs, string(piece(number())))
	}
	for range number() {
		i := in{Word: int(piece(1)[0])}
		if i.Word < 1 || i.Word > 33 {
			panic(stop{place - 1})
		}
		if shapes[i.Word].a != "-" {
			i.A = number()
		}
		if shapes[i.Word].b != "-" {
			i.B = number()
		}
		c.Ops = append(c.Ops, i)
	}
	if place < len(b) {
		panic(stop{place})
	}
	if _, at, e = heights(c); e != api.OK {
		c = api.Code{}
	}
	return c, at, e
}

// holdDecode: whether Decode answers as it must; the code's bytes are then those that were read.
func holdDecode(t *testing.T, b []byte) api.Errno {
	t.Helper()
	want, at, e := decoded(b)
	got, place, f := code.Decode(b)
	if !same(got, want) || place != at || f != e {
		t.Fatalf("Decode(%s) = %s, %d, %d, want %s, %d, %d", brief(b), brief(got), place, f, brief(want), at, e)
	}
	if e == api.OK {
		if back, f := code.Encode(got); !bytes.Equal(back, b) || f != api.OK {
			t.Fatalf("Encode(Decode(%s)) = %s, %d", brief(b), brief(back), f)
		}
	}
	return e
}

// P26.5: the document's examples, and each fault at its edges.
func TestDecodeExamples(t *testing.T) {
	for _, c := range []struct {
		b  string
		at int
		e  api.Errno
	}{
		{"ABC1\x00\x00\x80\x00", 6, api.ErrBytes}, {"AB", 2, api.ErrBytes}, {"AC", 1, api.ErrBytes}, {"ABC1\x00\x00\x00", 0, api.ErrCode}, {"ABC1\x00\x00\x01\x22", 7, api.ErrBytes},
		// The mark.
		{"", 0, api.ErrBytes}, {"a", 0, api.ErrBytes}, {"ABC", 3, api.ErrBytes}, {"ABC2", 3, api.ErrBytes}, {"ABC1", 4, api.ErrBytes}, {"\x00BC1", 0, api.ErrBytes}, {"XYZ", 0, api.ErrBytes}, {"AB\x00\x00", 2, api.ErrBytes},
		// Numbers: the greatest, one more, more digits, a last digit 0, cut off.
		{"ABC1\xff\xff\xff\xff\x07", 9, api.ErrBytes}, {"ABC1\x80\x80\x80\x80\x08", 4, api.ErrBytes}, {"ABC1\xff\xff\xff\xff\x0f", 4, api.ErrBytes}, {"ABC1\xff\xff\xff\xff\x7f", 4, api.ErrBytes}, {"ABC1\x80\x80\x80\x80\x80\x01", 4, api.ErrBytes}, {"ABC1\xff\xff\xff\xff\xff", 4, api.ErrBytes},
		{"ABC1\x80\x80\x80\x80\x00", 4, api.ErrBytes}, {"ABC1\x81\x80\x80\x00", 4, api.ErrBytes}, {"ABC1\x81\x80\x00", 4, api.ErrBytes}, {"ABC1\x81\x00", 4, api.ErrBytes}, {"ABC1\x81", 5, api.ErrBytes}, {"ABC1\x81\x80", 6, api.ErrBytes}, {"ABC1\xff\xff\xff\xff", 8, api.ErrBytes},
		// A great count ahead of a fault, and with nothing behind it.
		{"ABC1\x00\xff\xff\xff\xff\x07\x00\x00\x80\x00", 12, api.ErrBytes}, {"ABC1\x00\xff\xff\xff\xff\x07", 10, api.ErrBytes}, {"ABC1\x00\x00\xff\xff\xff\xff\x07", 11, api.ErrBytes}, {"ABC1\x00\x00\xff\xff\xff\xff\x07\x1e\x22", 12, api.ErrBytes}, {"ABC1\x00\x00\xff\xff\xff\xff\x07\x1e\x1e", 13, api.ErrBytes},
		// Doubles and texts, cut off.
		{"ABC1\x01", 5, api.ErrBytes}, {"ABC1\x01\x00\x00\x00\x00\x00\x00\x00", 12, api.ErrBytes}, {"ABC1\x02\x80\x00\x80\x00\x80\x00\x80\x00\x80\x00", 15, api.ErrBytes}, {"ABC1\x00\x01", 6, api.ErrBytes}, {"ABC1\x00\x01\x01", 7, api.ErrBytes}, {"ABC1\x00\x02\x01a", 8, api.ErrBytes}, {"ABC1\x00\x01\xff\xff\xff\xff\x07abc", 14, api.ErrBytes}, {"ABC1\x00\x01\x80\x80\x80\x80\x08abc", 6, api.ErrBytes},
		// Words and their fields.
		{"ABC1\x00\x00\x01", 7, api.ErrBytes}, {"ABC1\x00\x00\x01\x00", 7, api.ErrBytes}, {"ABC1\x00\x00\x01\xff", 7, api.ErrBytes}, {"ABC1\x00\x00\x01\x03", 8, api.ErrBytes}, {"ABC1\x00\x00\x01\x03\x80", 9, api.ErrBytes}, {"ABC1\x00\x00\x01\x03\x80\x00", 8, api.ErrBytes}, {"ABC1\x00\x00\x01\x06\x09", 9, api.ErrBytes}, {"ABC1\x00\x00\x01\x06\x09\x81\x00", 9, api.ErrBytes}, {"ABC1\x00\x00\x01\x06\x09\x01", 0, api.OK},
		// What stands behind the end; a fault in the bytes comes ahead of one in the code.
		{"ABC1\x00\x00\x01\x03\x09\x00", 9, api.ErrBytes}, {"ABC1\x00\x00\x00\x03", 7, api.ErrBytes}, {"ABC1\x00\x00\x02\x1e\x22", 8, api.ErrBytes}, {"ABC1\x00\x00\x01\x1eABC1", 8, api.ErrBytes},
		// Codes that aren't good, with their places.
		{"ABC1\x00\x00\x01\x01\x00", 0, api.ErrCode}, {"ABC1\x00\x00\x01\x1e", 0, api.ErrCode}, {"ABC1\x00\x00\x02\x03\x09\x03\x09", 2, api.ErrCode}, {"ABC1\x00\x00\x02\x03\x09\x03\x80\x02", 1, api.ErrCode}, {"ABC1\x00\x00\x02\x03\x09\x03\xff\xff\xff\xff\x07", 1, api.ErrCode}, {"ABC1\x00\x00\x02\x03\x09\x1b\x00", 1, api.ErrCode},
	} {
		if got, at, e := code.Decode([]byte(c.b)); at != c.at || e != c.e || e != api.OK && !isNone(got) {
			t.Errorf("Decode(%q) = %v, %d, %d, want %d, %d", c.b, got, at, e, c.at, c.e)
		}
		holdDecode(t, []byte(c.b))
	}
}

// P26.5: every short row of bytes that matter, bare, behind the mark, and behind a number and a text.
func TestDecodeShort(t *testing.T) {
	for _, c := range []struct {
		head, alphabet string
		most           int
	}{
		{"", "ABC1\x00", 5}, {"ABC1", "\x00\x01\x02\x03\x1e\x22\x80\x81\xff", 6}, {"ABC1\x00\x00", "\x00\x01\x02\x03\x07\x08\x1b\x1e\x80\xff", 6}, {"ABC1\x01\x00\x00\x00\x00\x00\x00\xf0\x3f\x01\x01a", "\x00\x01\x02\x05\x08\x19\x1c\x7f\x80", 6},
	} {
		for count := range c.most + 1 {
			each([]byte(c.alphabet), count, func(b []byte) { holdDecode(t, append([]byte(c.head), b...)) })
		}
	}
}

// P26.5: the bytes of drawn codes, cut off at every place, and with every byte changed, left out or put in.
func TestDecodeChanged(t *testing.T) {
	seed := uint64(265)
	fine, bytesWrong, codeWrong := 0, 0, 0
	count := func(b []byte) {
		switch holdDecode(t, b) {
		case api.OK:
			fine++
		case api.ErrBytes:
			bytesWrong++
		default:
			codeWrong++
		}
	}
	for range 1000 {
		b := encoded(drawCode(&seed, between(&seed, 0, 4)))
		if len(b) > 600 {
			continue
		}
		for i := range b {
			count(b[:i])
			count(slices.Delete(slices.Clone(b), i, i+1))
			count(slices.Insert(slices.Clone(b), i, pick(&seed, 0, 0x80, 1, 0xff, byte(random(&seed)))))
			for _, c := range []byte{b[i] ^ 0x80, b[i] + 1, b[i] - 1, 0, 0xff, byte(random(&seed))} {
				other := slices.Clone(b)
				other[i] = c
				count(other)
			}
		}
		count(append(b, byte(random(&seed))))
	}
	if fine < 1000 || bytesWrong < 1000 || codeWrong < 1000 {
		t.Errorf("%d were good, %d no code's, %d not good", fine, bytesWrong, codeWrong)
	}
}

// P26.5: counts and fields of all sizes, in the greatest number of digits and with one more.
func TestDecodeNumbers(t *testing.T) {
	seed := uint64(2650)
	for range 200000 {
		// The last digit of a text's length, of the number of instructions or of a field.
		digits := make([]byte, between(&seed, 1, 6))
		for i := range digits {
			digits[i] = pick(&seed, 0x80, 0x81, 0xff, 0x80|byte(random(&seed)))
		}
		digits[len(digits)-1] = pick(&seed, 0, 1, 7, 8, 15, 16, 127, 0x80, byte(random(&seed)))
		head := pick(&seed, "ABC1\x00\x01", "ABC1\x00\x00", "ABC1\x00\x00\x01\x03", "ABC1\x00\x00\x02\x03\x09\x04", "ABC1\x00\x00\x01\x06\x00")
		holdDecode(t, slices.Concat([]byte(head), digits, make([]byte, between(&seed, 0, 9))))
	}
}

// P26.5: more instructions than a code may have: the bytes' faults come first.
func TestDecodeOfTheMost(t *testing.T) {
	list := func(count int, tail ...byte) []byte {
		b := binary.AppendUvarint([]byte("ABC1\x00\x00"), uint64(count))
		b = append(b, 3, 9)
		return append(append(b, bytes.Repeat([]byte{20}, count-1)...), tail...)
	}
	for _, c := range []struct {
		what string
		b    []byte
		at   int
		e    api.Errno
	}{
		{"the most", list(maxCode), 0, api.OK}, {"one more", list(maxCode + 1), maxCode, api.ErrCode}, {"two more", list(maxCode + 2), maxCode, api.ErrCode}, {"millions more", list(1 << 23), maxCode, api.ErrCode},
		{"a byte behind", list(maxCode+1, 0), len(list(maxCode + 1)), api.ErrBytes}, {"one left out", list(maxCode + 5)[:maxCode+10], maxCode + 10, api.ErrBytes},
	} {
		got, at, e := code.Decode(c.b)
		if at != c.at || e != c.e || e != api.OK && !isNone(got) || e == api.OK && len(got.Ops) != maxCode {
			t.Errorf("%s: %d instructions, %d, %d, want %d, %d", c.what, len(got.Ops), at, e, c.at, c.e)
		}
	}
	wrong := list(maxCode + 100)
	wrong[len(wrong)-1] = 34
	if _, at, e := code.Decode(wrong); at != len(wrong)-1 || e != api.ErrBytes {
		t.Errorf("a wrong word behind the most: %d, %d", at, e)
	}
}

// P26.5: bytes have no limit when they are read; what they tell may then be too long to be written again.
func TestDecodeLong(t *testing.T) {
	c := api.Code{Ops: []in{variable}, Strs: []string{string(make([]byte, maxText+7)), "x"}, Nums: make([]uint64, 1<<18)}
	got, at, e := code.Decode(encoded(c))
	if !same(got, c) || at != 0 || e != api.OK {
		t.Errorf("a long code: %d, %d", at, e)
	}
	if b, e := code.Encode(got); len(b) != 0 || e != api.ErrLong {
		t.Errorf("its bytes: %d, %d", len(b), e)
	}
	texts := append(binary.AppendUvarint([]byte("ABC1\x00"), 1<<23), make([]byte, 1<<23)...)
	got, at, e = code.Decode(append(texts, 1, 3, 9))
	if len(got.Strs) != 1<<23 || len(got.Ops) != 1 || at != 0 || e != api.OK {
		t.Errorf("millions of empty texts: %d, %d, %d", len(got.Strs), at, e)
	}
	if _, at, e = code.Decode(append(binary.AppendUvarint([]byte("ABC1\x00"), 1<<31-1), make([]byte, 1<<23)...)); at != 10+1<<23 || e != api.ErrBytes {
		t.Errorf("more texts than there are bytes: %d, %d", at, e)
	}
}
