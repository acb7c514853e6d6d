package code_test

import (
	"fmt"
	"slices"
	"strings"
	"testing"

	"abacus/api"
	"abacus/code"
)

// listed: what List must answer of a good code.
func listed(c api.Code) string {
	var out strings.Builder
	for i, op := range c.Ops {
		s := shapes[op.Word]
		fmt.Fprintf(&out, "%d: %s", i, s.name)
		if s.a != "-" {
			fmt.Fprintf(&out, " %d", op.A)
		}
		if s.b != "-" {
			fmt.Fprintf(&out, " %d", op.B)
		}
		switch s.name {
		case "num":
			fmt.Fprintf(&out, " %016x", c.Nums[op.A])
		case "str":
			out.WriteString(" \"")
			for _, b := range []byte(c.Strs[op.A]) {
				if b == '"' || b == '\\' || b < 0x20 || b > 0x7e {
					fmt.Fprintf(&out, "\\x%02x", b)
				} else {
					out.WriteByte(b)
				}
			}
			out.WriteByte('"')
		}
		out.WriteByte('\n')
	}
	return out.String()
}

// holdList: whether List answers as it must of a good code.
func holdList(t *testing.T, c api.Code) {
	t.Helper()
	if s, e := code.List(c); s != listed(c) || e != api.OK {
		t.Fatalf("List(%s) = %s, %d, want %s", brief(c), brief(s), e, brief(listed(c)))
	}
}

// P26.6: the document's examples.
func TestListExamples(t *testing.T) {
	for _, c := range []struct {
		c    api.Code
		want string
	}{
		{api.Code{Ops: []in{variable, {Word: api.InNum}, {Word: api.InBin, A: 1}}, Nums: []uint64{api.One}}, "0: var 9\n1: num 0 3ff0000000000000\n2: bin 1\n"},
		{api.Code{Ops: []in{{Word: api.InStr}}, Strs: []string{"a\"\n"}}, "0: str 0 \"a\\x22\\x0a\"\n"},
		{api.Code{Ops: []in{{Word: api.InStr, A: 1}}, Strs: []string{"b", ""}}, "0: str 1 \"\"\n"},
		{api.Code{Ops: []in{variable, jump(3), pop}}, "0: var 9\n1: jump 3\n2: pop\n"},
		{api.Code{Ops: []in{{Word: api.InNum, A: 1}, {Word: api.InOpField, B: 6}}, Nums: []uint64{0, 0xfedcba9876543210}}, ""},
		{api.Code{Ops: []in{{Word: api.InNum, A: 1}, {Word: api.InStepField, B: 4}}, Nums: []uint64{0, 0xfedcba9876543210}}, "0: num 1 fedcba9876543210\n1: stepfield 4\n"},
		{api.Code{Ops: []in{{Word: api.InAsort, A: 63}, {Word: api.InCall, A: api.FnSprintf, B: 1}}}, "0: asort 63\n1: call 4 1\n"},
	} {
		want := api.OK
		if c.want == "" {
			want = api.ErrCode
		}
		if s, e := code.List(c.c); s != c.want || e != want {
			t.Errorf("List(%v) = %q, %d, want %q, %d", c.c, s, e, c.want, want)
		}
	}
	if s, e := code.List(api.Code{}); s != "" || e != api.ErrCode {
		t.Errorf("List of nothing = %q, %d", s, e)
	}
}

// P26.6: every byte of a text, every digit of a double, every word (in drawn codes).
func TestListAll(t *testing.T) {
	all := make([]byte, 256)
	for i := range all {
		all[i] = byte(i)
		holdList(t, api.Code{Ops: []in{{Word: api.InStr}}, Strs: []string{string(all[i : i+1])}})
	}
	holdList(t, api.Code{Ops: []in{{Word: api.InStr}}, Strs: []string{string(all) + string(all)}})
	for shift := 0; shift < 64; shift += 4 {
		for digit := range uint64(16) {
			holdList(t, api.Code{Ops: []in{{Word: api.InNum}}, Nums: []uint64{digit << shift}})
		}
	}
	seed := uint64(266)
	seen := 0
	for range 20000 {
		c := drawCode(&seed, between(&seed, 0, 5))
		holdList(t, c)
		for _, op := range c.Ops {
			seen |= 1 << op.Word
		}
		if other := changed(&seed, c); hold(t, other) == api.OK {
			holdList(t, other)
		} else if s, e := code.List(other); s != "" || e != api.ErrCode {
			t.Fatalf("List(%s) = %s, %d, want ErrCode", brief(other), brief(s), e)
		}
	}
	if seen != 1<<34-2 {
		t.Errorf("not every word was seen: %b", seen)
	}
	holdList(t, chain(maxCode))
}

// P26.6: the longest text that may be, and one byte more; ErrCode ahead of ErrLong; and an end soon, though a long text is named often.
func TestListLimit(t *testing.T) {
	str := in{Word: api.InStr}
	text := func(s string) api.Code { return api.Code{Ops: []in{str}, Strs: []string{s}} }
	room := maxText - len("0: str 0 \"\"\n")
	for _, c := range []struct {
		what string
		c    api.Code
		e    api.Errno
	}{
		{"the longest", text(strings.Repeat("x", room)), api.OK}, {"one byte more", text(strings.Repeat("x", room+1)), api.ErrLong},
		{"escapes", text(strings.Repeat("\"", room/4) + "xxx"[:room%4]), api.OK}, {"one byte more", text(strings.Repeat("\"", room/4) + "xxxx"[:room%4+1]), api.ErrLong}, {"an escape at the end", text(strings.Repeat("x", room-3) + "\n"), api.ErrLong}, {"with room", text(strings.Repeat("x", room-4) + "\n"), api.OK},
		{"a line that doesn't fit", api.Code{Ops: []in{str, neg}, Strs: []string{strings.Repeat("x", room-6)}}, api.ErrLong}, {"one that does", api.Code{Ops: []in{str, neg}, Strs: []string{strings.Repeat("x", room-7)}}, api.OK},
		{"a text far too long", text(strings.Repeat("x", 5*maxText)), api.ErrLong},
		{"one that isn't named", api.Code{Ops: []in{variable}, Strs: []string{strings.Repeat("x", 2*maxText)}}, api.OK},
		{"too long, and not good", api.Code{Ops: []in{str, cat}, Strs: []string{strings.Repeat("x", maxText)}}, api.ErrCode},
		{"named often", api.Code{Ops: append(slices.Repeat([]in{str, pop}, maxCode/2-1), str), Strs: []string{strings.Repeat("\x00", 1<<22-1)}}, api.ErrLong},
		{"a short one, named often", api.Code{Ops: append(slices.Repeat([]in{str, pop}, maxCode/2-1), str), Strs: []string{strings.Repeat("x", 1000)}}, api.ErrLong},
	} {
		s, e := code.List(c.c)
		if e != c.e || e != api.OK && s != "" || len(s) > maxText {
			t.Errorf("%s: %d bytes, %d, want %d", c.what, len(s), e, c.e)
		}
		if e == api.OK && s != listed(c.c) {
			t.Errorf("%s: another list", c.what)
		}
	}
	if s, _ := code.List(text(strings.Repeat("x", room))); len(s) != maxText {
		t.Errorf("%d bytes, want MaxText", len(s))
	}
}
