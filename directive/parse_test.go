package directive_test

import (
	"strings"
	"sync"
	"testing"

	"abacus/api"
	"abacus/directive"
)

// P13.1: the document's examples of formats that are taken, and the edges of their parts.
func TestParseExamples(t *testing.T) {
	for _, c := range []struct {
		format string
		want   []api.Piece
	}{
		{"a%-05.2fb", []api.Piece{{Text: "a"}, {Verb: 'f', Flags: 17, WidthKind: 1, Width: 5, PrecKind: 1, Prec: 2}, {Text: "b"}}},
		{"%+ +0008.d", []api.Piece{{Verb: 'd', Flags: 22, WidthKind: 1, Width: 8, PrecKind: 1}}},
		{"100%%\n", []api.Piece{{Text: "100"}, {Verb: '%'}, {Text: "\n"}}},
		{"", nil},
		{"%*.*s", []api.Piece{{Verb: 's', WidthKind: 2, PrecKind: 2}}},
		{"%.0004096d", []api.Piece{{Verb: 'd', PrecKind: 1, Prec: 4096}}},
		{"%0004096d", []api.Piece{{Verb: 'd', Flags: api.ZeroPad, WidthKind: 1, Width: 4096}}},
		{"%00d", []api.Piece{{Verb: 'd', Flags: api.ZeroPad}}},
		{"%0*d", []api.Piece{{Verb: 'd', Flags: api.ZeroPad, WidthKind: 2}}},
		{"%0.0d", []api.Piece{{Verb: 'd', Flags: api.ZeroPad, PrecKind: 1}}},
		{"%1.*e", []api.Piece{{Verb: 'e', WidthKind: 1, Width: 1, PrecKind: 2}}},
		{"%*.7e", []api.Piece{{Verb: 'e', WidthKind: 2, PrecKind: 1, Prec: 7}}},
		{"%10.d", []api.Piece{{Verb: 'd', WidthKind: 1, Width: 10, PrecKind: 1}}},
		{"% d", []api.Piece{{Verb: 'd', Flags: api.Space}}},
		{"%0- #+d", []api.Piece{{Verb: 'd', Flags: 31}}},
		{"%%%%", []api.Piece{{Verb: '%'}, {Verb: '%'}}},
		{"%%d", []api.Piece{{Verb: '%'}, {Text: "d"}}},
		{"%%%d", []api.Piece{{Verb: '%'}, {Verb: 'd'}}},
		{"%d%d", []api.Piece{{Verb: 'd'}, {Verb: 'd'}}},
		{"%dd", []api.Piece{{Verb: 'd'}, {Text: "d"}}},
		{"\x00\xff%s\xc3", []api.Piece{{Text: "\x00\xff"}, {Verb: 's'}, {Text: "\xc3"}}},
	} {
		holdParse(t, c.format, c.want, 0, api.OK)
		hold(t, c.format)
	}
}

// P13.1: the first fault from the left, with its place.
func TestParseFaults(t *testing.T) {
	for _, c := range []struct {
		format string
		at     int
		e      api.Errno
	}{
		{"%", 1, api.ErrEnds}, {"x%5", 3, api.ErrEnds}, {"%5%", 2, api.ErrVerb}, {"%.-3d", 2, api.ErrVerb}, {"%4097d", 1, api.ErrWide}, {"%4097", 1, api.ErrWide}, {"%ld", 1, api.ErrVerb},
		{"%-", 2, api.ErrEnds}, {"%.", 2, api.ErrEnds}, {"%*", 2, api.ErrEnds}, {"%.*", 3, api.ErrEnds}, {"%5.", 3, api.ErrEnds}, {"%5.7", 4, api.ErrEnds}, {"%%%", 3, api.ErrEnds}, {"%d%", 3, api.ErrEnds}, {"abc%0", 5, api.ErrEnds},
		{"%-%", 2, api.ErrVerb}, {"%.%", 2, api.ErrVerb}, {"%*%", 2, api.ErrVerb}, {"%0%", 2, api.ErrVerb}, {"%**d", 2, api.ErrVerb}, {"%*5d", 2, api.ErrVerb}, {"%*0d", 2, api.ErrVerb}, {"%5*d", 2, api.ErrVerb}, {"%5-d", 2, api.ErrVerb}, {"%5 d", 2, api.ErrVerb}, {"%*-d", 2, api.ErrVerb}, {"%.*5d", 3, api.ErrVerb}, {"%.5*d", 3, api.ErrVerb}, {"%.**d", 3, api.ErrVerb}, {"%..d", 2, api.ErrVerb}, {"%.5.d", 3, api.ErrVerb}, {"%.+d", 2, api.ErrVerb}, {"%. d", 2, api.ErrVerb}, {"%a", 1, api.ErrVerb}, {"%A", 1, api.ErrVerb}, {"%n", 1, api.ErrVerb}, {"%p", 1, api.ErrVerb}, {"%D", 1, api.ErrVerb}, {"%hd", 1, api.ErrVerb}, {"%1$d", 2, api.ErrVerb}, {"%'d", 1, api.ErrVerb}, {"%\td", 1, api.ErrVerb}, {"%\x00", 1, api.ErrVerb}, {"%5\x00", 2, api.ErrVerb}, {"%\xff", 1, api.ErrVerb}, {"%é", 1, api.ErrVerb},
		{"%.4097d", 2, api.ErrWide}, {"%.0004097d", 2, api.ErrWide}, {"%00004097d", 5, api.ErrWide}, {"%-99999999999999999999q", 2, api.ErrWide}, {"%4097.4097d", 1, api.ErrWide}, {"%5.4097", 3, api.ErrWide}, {"%4097.", 1, api.ErrWide}, {"%.4097%", 2, api.ErrWide}, {"%40960d", 1, api.ErrWide}, {"%18446744073709551617d", 1, api.ErrWide}, {"%.18446744073709551616d", 2, api.ErrWide}, {"%9223372036854775808d", 1, api.ErrWide}, {"%.4294967296d", 2, api.ErrWide}, {"%*.4097d", 3, api.ErrWide},
		{"%q%4097d%", 1, api.ErrVerb}, {"%4097d%q", 1, api.ErrWide}, {"%d%q%", 3, api.ErrVerb}, {"a%%%5.5s%d%%%z", 13, api.ErrVerb},
	} {
		holdParse(t, c.format, nil, c.at, c.e)
		hold(t, c.format)
	}
}

// P13.1: every byte where a verb must stand, alone and behind flags, a width, a precision.
func TestParseVerbs(t *testing.T) {
	for c := range 256 {
		b := string([]byte{byte(c)})
		is := strings.Contains(verbs, b)
		for _, head := range []string{"%", "%+", "%5", "%*", "%.", "%.3", "%.*", "%-5.2", "ab%% %"} {
			if took := hold(t, head+b+"d"); is && !took {
				t.Fatalf("%q isn't taken", head+b+"d")
			}
			if took := hold(t, head+b); took != is && (c != '%' || head[len(head)-1] != '%') {
				t.Fatalf("Parse(%q): taken is %v", head+b, took)
			}
		}
	}
}

// P13.1: every byte but % is text outside a directive.
func TestParseBytes(t *testing.T) {
	var all []byte
	for c := range 256 {
		if c != '%' {
			all = append(all, byte(c))
			holdParse(t, string([]byte{byte(c)}), []api.Piece{{Text: string([]byte{byte(c)})}}, 0, api.OK)
		}
	}
	text := string(all)
	holdParse(t, text+"%d"+text+"%%"+text, []api.Piece{{Text: text}, {Verb: 'd'}, {Text: text}, {Verb: '%'}, {Text: text}}, 0, api.OK)
}

// P13.1: all widths and precisions about the limit, and all sums of flags in many orders.
func TestParseNumbersAndFlags(t *testing.T) {
	for _, n := range []string{"1", "2", "9", "10", "11", "99", "100", "409", "1000", "4000", "4090", "4095", "4096", "4097", "4100", "5000", "9999", "10000", "40969"} {
		for _, zeros := range []string{"", "0", "000000", strings.Repeat("0", 5000)} {
			for _, format := range []string{"%" + zeros + n + "d", "%." + zeros + n + "d", "%-" + n + "." + zeros + n + "g", "%" + n, "%." + zeros + n} {
				if len(zeros) < 100 {
					hold(t, format)
				}
				if _, _, e := directive.Parse(format); (e == api.ErrWide) != (len(n) > 4 || len(n) == 4 && n > "4096") {
					t.Fatalf("Parse(%q): %d", format, e)
				}
			}
		}
	}
	for sum := range 32 {
		there, back := "", ""
		for i := range 5 {
			if sum&(1<<i) != 0 {
				there += marks[i : i+1]
				back = marks[i:i+1] + back
			}
		}
		for _, flags := range []string{there, back, there + there, back + there + back} {
			holdParse(t, "%"+flags+"7x", []api.Piece{{Verb: 'x', Flags: sum, WidthKind: 1, Width: 7}}, 0, api.OK)
		}
	}
}

// P13.1: drawn formats, held against shapes that are told another way.
func TestParseDrawn(t *testing.T) {
	seed := uint64(131)
	took, refused := 0, 0
	for range 30000 {
		if hold(t, drawFormat(&seed)) {
			took++
		} else {
			refused++
		}
	}
	if took < 5000 || refused < 5000 {
		t.Errorf("%d taken, %d refused", took, refused)
	}
}

// P13.1: every format of at most five bytes out of those that mean something.
func TestParseAllShort(t *testing.T) {
	const bytes = "%-0*.5dq"
	for n := range 6 {
		count := 1
		for range n {
			count *= len(bytes)
		}
		for i := range count {
			format := make([]byte, n)
			for k := range format {
				format[k] = bytes[i%len(bytes)]
				i /= len(bytes)
			}
			hold(t, string(format))
		}
	}
}

// P13.1: long formats: the longest rows of flags, digits and pieces, and texts beyond what Print makes.
func TestParseLong(t *testing.T) {
	const many = 1 << 20
	for _, c := range []struct {
		format string
		want   []api.Piece
		at     int
		e      api.Errno
	}{
		{"%" + strings.Repeat("-+ #0", many) + "d", []api.Piece{{Verb: 'd', Flags: 31}}, 0, api.OK},
		{"%." + strings.Repeat("0", many) + "7d", []api.Piece{{Verb: 'd', PrecKind: 1, Prec: 7}}, 0, api.OK},
		{"%5." + strings.Repeat("0", many) + "4097d", nil, 3, api.ErrWide},
		{"%" + strings.Repeat("9", many) + "d", nil, 1, api.ErrWide},
		{"%" + strings.Repeat("1", many) + "q", nil, 1, api.ErrWide},
		{strings.Repeat("%%", many) + "%", nil, 2*many + 1, api.ErrEnds},
		{strings.Repeat("x", api.MaxText+1) + "%d", []api.Piece{{Text: strings.Repeat("x", api.MaxText+1)}, {Verb: 'd'}}, 0, api.OK},
	} {
		list, at, e := directive.Parse(c.format)
		if !same(list, c.want) || at != c.at || e != c.e {
			t.Errorf("Parse of %d bytes, %q..: %d pieces, %d, %d", len(c.format), c.format[:9], len(list), at, e)
		}
	}
	list, at, e := directive.Parse(strings.Repeat("a%d%%", many/4))
	if len(list) != many/4*3 || at != 0 || e != api.OK {
		t.Fatalf("%d pieces, %d, %d", len(list), at, e)
	}
	for i, p := range list {
		if p != ([]api.Piece{{Text: "a"}, {Verb: 'd'}, {Verb: '%'}})[i%3] {
			t.Fatalf("piece %d is %v", i, p)
		}
	}
}

// P13.8: the list that Parse answers is new memory, its spare room too, and a call hangs on its arguments alone.
func TestParseMemory(t *testing.T) {
	const format = "a%-05.2fb%*d%%c"
	first, _, _ := directive.Parse(format)
	want := append([]api.Piece(nil), first...)
	for i := range first[:cap(first)] {
		first[:cap(first)][i] = api.Piece{Text: "gone", Verb: 'q', Flags: -1}
	}
	var wait sync.WaitGroup
	for range 8 {
		wait.Add(1)
		go func() {
			defer wait.Done()
			for range 200 {
				if list, at, e := directive.Parse(format); !same(list, want) || at != 0 || e != api.OK {
					t.Errorf("Parse(%q) = %v, %d, %d", format, list, at, e)
				}
			}
		}()
	}
	wait.Wait()
}
