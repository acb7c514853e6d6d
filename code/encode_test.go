package code_test

import (
	"bytes"
	"encoding/binary"
	"slices"
	"strings"
	"testing"

	"abacus/api"
	"abacus/code"
)

// encoded: the bytes of a code, good or not, by the library's means.
func encoded(c api.Code) []byte {
	b := []byte{0x41, 0x42, 0x43, 0x31}
	b = binary.AppendUvarint(b, uint64(len(c.Nums)))
	for _, d := range c.Nums {
		b = binary.LittleEndian.AppendUint64(b, d)
	}
	b = binary.AppendUvarint(b, uint64(len(c.Strs)))
	for _, s := range c.Strs {
		b = append(binary.AppendUvarint(b, uint64(len(s))), s...)
	}
	b = binary.AppendUvarint(b, uint64(len(c.Ops)))
	for _, i := range c.Ops {
		b = append(b, byte(i.Word))
		if shapes[i.Word].a != "-" {
			b = binary.AppendUvarint(b, uint64(i.A))
		}
		if shapes[i.Word].b != "-" {
			b = binary.AppendUvarint(b, uint64(i.B))
		}
	}
	return b
}

// thereAndBack: whether Encode answers the code's bytes, and Decode the code of them.
func thereAndBack(t *testing.T, c api.Code) {
	t.Helper()
	want := encoded(c)
	b, e := code.Encode(c)
	if !bytes.Equal(b, want) || e != api.OK {
		t.Fatalf("Encode(%s) = %s, %d, want %s", brief(c), brief(b), e, brief(want))
	}
	back, at, e := code.Decode(b)
	if !same(back, c) || at != 0 || e != api.OK {
		t.Fatalf("Decode(%s) = %s, %d, %d, want %s", brief(b), brief(back), at, e, brief(c))
	}
}

// P26.4, P26.5: the document's example, and the parts one by one.
func TestEncodeExamples(t *testing.T) {
	for _, c := range []struct {
		c    api.Code
		want string
	}{
		{api.Code{Ops: []in{variable, {Word: api.InNum}, {Word: api.InBin, A: 1}}, Nums: []uint64{api.One}}, "ABC1\x01\x00\x00\x00\x00\x00\x00\xf0\x3f\x00\x03\x03\x09\x01\x00\x18\x01"},
		{api.Code{Ops: []in{{Word: api.InAsort}}}, "ABC1\x00\x00\x01\x21\x00"},
		{api.Code{Ops: []in{{Word: api.InVar, A: 127}, {Word: api.InStepField, B: 4}}}, "ABC1\x00\x00\x02\x03\x7f\x0b\x04"},
		{api.Code{Ops: []in{{Word: api.InVar, A: 128}, {Word: api.InStepElem, A: 63, B: 4}}}, "ABC1\x00\x00\x02\x03\x80\x01\x11\x3f\x04"},
		{api.Code{Ops: []in{{Word: api.InVar, A: 255}, {Word: api.InCall, A: 4, B: 1}}}, "ABC1\x00\x00\x02\x03\xff\x01\x1f\x04\x01"},
		{api.Code{Ops: []in{variable}, Nums: []uint64{0x0102030405060708, 0xfedcba9876543210}, Strs: []string{"", "a\x00\xff"}}, "ABC1\x02\x08\x07\x06\x05\x04\x03\x02\x01\x10\x32\x54\x76\x98\xba\xdc\xfe\x02\x00\x03a\x00\xff\x01\x03\x09"},
	} {
		if b, e := code.Encode(c.c); string(b) != c.want || e != api.OK {
			t.Errorf("Encode(%v) = %q, %d, want %q", c.c, b, e, c.want)
		}
		thereAndBack(t, c.c)
	}
}

// P26.4, P26.5: every word with every field about its ends, each in a code of its own.
func TestEncodeWords(t *testing.T) {
	seen := 0
	for word := range 34 {
		for _, a := range []int{0, 1, 2, 3, 4, 5, 6, 7, 8, 9, 10, 11, 12, 13, 63, 127, 128, 255, 256, 16383, 16384, 32768} {
			for _, b := range []int{0, 1, 2, 3, 4, 5, 6, 10, 11, 127, 128, 129, 16383, 16384, 32767, 32768} {
				i := in{Word: word, A: a, B: b}
				takes, puts, ok := effect(i)
				if !ok {
					continue
				}
				c := api.Code{Nums: make([]uint64, 256), Strs: make([]string, 256), Ops: slices.Repeat([]in{variable}, takes)}
				if shapes[word].a == "place" {
					i.A = len(c.Ops) + 1
				}
				if c.Ops = append(c.Ops, i); puts == 0 {
					c.Ops = append(c.Ops, variable)
				}
				if hold(t, c) == api.OK {
					thereAndBack(t, c)
					seen |= 1 << word
				}
			}
		}
	}
	if seen != 1<<34-2 {
		t.Errorf("not every word was seen: %b", seen)
	}
}

// P26.4, P26.5: drawn codes, there and back; changed ones are refused by both if they aren't good.
func TestEncodeDrawn(t *testing.T) {
	seed := uint64(264)
	for range 20000 {
		c := drawCode(&seed, between(&seed, 0, 5))
		thereAndBack(t, c)
		other := changed(&seed, c)
		if _, at, e := heights(other); e == api.OK {
			thereAndBack(t, other)
		} else if b, f := code.Encode(other); len(b) != 0 || f != api.ErrCode {
			t.Fatalf("Encode(%s) = %s, %d, want ErrCode", brief(other), brief(b), f)
		} else if tellable(other) {
			back, place, f := code.Decode(encoded(other))
			if !isNone(back) || place != at || f != api.ErrCode {
				t.Fatalf("Decode of %s = %s, %d, %d, want %d, ErrCode", brief(other), brief(back), place, f, at)
			}
		}
	}
}

// tellable: whether a code, good or not, has a form in bytes.
func tellable(c api.Code) bool {
	return !slices.ContainsFunc(c.Ops, func(i api.Instr) bool {
		s := shapes[min(uint(i.Word), 34)%34]
		return s.name == "" || i.A < 0 || i.A > 1<<31-1 || i.B < 0 || i.B > 1<<31-1 || s.a == "-" && i.A != 0 || s.b == "-" && i.B != 0
	})
}

// P26.4, P26.5: lists whose lengths have two, three and four digits, and long jumps.
func TestEncodeLong(t *testing.T) {
	for _, count := range []int{1, 127, 128, 129, 16383, 16384, 16385, maxCode - 3} {
		c := api.Code{Nums: make([]uint64, count), Strs: make([]string, count)}
		c.Nums[count-1], c.Strs[count-1] = api.NaN+1, strings.Repeat("s", count)
		c.Ops = slices.Concat([]in{{Word: api.InStr, A: count - 1}, jump(count + 1)}, slices.Repeat([]in{cat}, count-1), []in{{Word: api.InPop}, {Word: api.InNum, A: count - 1}})
		thereAndBack(t, c)
	}
	thereAndBack(t, chain(maxCode))
	c := api.Code{Ops: []in{variable}, Strs: []string{strings.Repeat("long", 1<<19), strings.Repeat("l", 1<<21-1)}}
	thereAndBack(t, c)
}

// P26.4: the longest bytes that may be, and one more, by a text, by texts and by numbers; and ErrCode ahead of ErrLong.
func TestEncodeLimit(t *testing.T) {
	whole := strings.Repeat("x", maxText+100)
	// Behind the mark stand 00, 01, four bytes of the text's length, the text, and 01 03 09.
	text := maxText - 4 - 2 - 4 - 3
	for _, c := range []struct {
		what string
		c    api.Code
		e    api.Errno
	}{
		{"the longest text", api.Code{Ops: []in{variable}, Strs: []string{whole[:text]}}, api.OK},
		{"one byte more", api.Code{Ops: []in{variable}, Strs: []string{whole[:text+1]}}, api.ErrLong},
		{"one byte more in the last instruction", api.Code{Ops: []in{{Word: api.InVar, A: 128}}, Strs: []string{whole[:text]}}, api.ErrLong},
		{"that byte saved", api.Code{Ops: []in{{Word: api.InVar, A: 128}}, Strs: []string{whole[:text-1]}}, api.OK},
		{"another text, empty", api.Code{Ops: []in{variable}, Strs: []string{whole[:text], ""}}, api.ErrLong},
		{"that byte saved", api.Code{Ops: []in{variable}, Strs: []string{whole[:text-1], ""}}, api.OK},
		{"a text that is too long alone, then short ones", api.Code{Ops: []in{variable}, Strs: []string{whole, "", "a"}}, api.ErrLong},
		{"texts", api.Code{Ops: []in{variable}, Strs: slices.Repeat([]string{whole[:maxText/2]}, 1000)}, api.ErrLong},
		{"numbers", api.Code{Ops: []in{variable}, Nums: make([]uint64, maxText/8-2)}, api.OK},
		{"a number more", api.Code{Ops: []in{variable}, Nums: make([]uint64, maxText/8-1)}, api.ErrLong},
		{"many numbers", api.Code{Ops: []in{variable}, Nums: make([]uint64, maxText)}, api.ErrLong},
		{"too long, and not good", api.Code{Ops: []in{pop}, Strs: []string{whole}}, api.ErrCode},
	} {
		b, e := code.Encode(c.c)
		if e != c.e || e != api.OK && len(b) != 0 || len(b) > maxText {
			t.Errorf("%s: %d bytes, %d, want %d", c.what, len(b), e, c.e)
		}
		if e == api.OK {
			thereAndBack(t, c.c)
		}
	}
	if b, _ := code.Encode(api.Code{Ops: []in{variable}, Strs: []string{whole[:text]}}); len(b) != maxText {
		t.Errorf("%d bytes, want MaxText", len(b))
	}
}
