package record_test

import (
	"math"
	"runtime"
	"slices"
	"strings"
	"testing"

	"abacus/api"
	"abacus/record"
	"abacus/value"
)

const usual = "%.6g"

// plain: these values in plain form.
func plain(list ...api.Value) []api.Value {
	out := make([]api.Value, len(list))
	for i, v := range list {
		out[i] = value.Plain(v)
	}
	return out
}

// P21.2: the chapter's first example.
func TestRecord(t *testing.T) {
	r := record.New("10 x", " ", "-")
	holdState(t, r, "10 x", plain(strnum(10, "10"), str("x"))...)
	holdField(t, r, 0, value.Str("10 x"), api.OK)
	holdSet(t, r, 4, num(0.5), usual, api.OK)
	holdState(t, r, "10-x--0.5", plain(strnum(10, "10"), str("x"), kind(0), num(0.5))...)
	for range 2 {
		holdCount(t, r, 1, "", api.OK)
		holdState(t, r, "10", plain(strnum(10, "10"))...)
	}
	holdSet(t, r, 0, str("p q r"), "", api.OK)
	holdState(t, r, "p q r", plain(str("p"), str("q"), str("r"))...)
	holdSet(t, r, 2, num(0.5), "%d", api.ErrConv)
	holdState(t, r, "p q r", plain(str("p"), str("q"), str("r"))...)
}

// P21.2: separators count from the next time that they are needed, and change nothing till then.
func TestSeps(t *testing.T) {
	r := record.New("a b", " ", ",")
	r.Seps(":", ";")
	holdState(t, r, "a b", plain(str("a"), str("b"))...)
	holdSet(t, r, 1, str("x:y"), "", api.OK)
	holdState(t, r, "x:y;b", plain(str("x:y"), str("b"))...)
	holdSet(t, r, 0, str("x:y;b"), "", api.OK)
	holdState(t, r, "x:y;b", plain(str("x"), str("y;b"))...)
	r.Seps("", "")
	r.Seps(";", "")
	holdCount(t, r, 3, "", api.OK)
	holdState(t, r, "xy;b", plain(str("x"), str("y;b"), kind(0))...)
	holdSet(t, r, 0, str("1;2 "), "", api.OK)
	holdState(t, r, "1;2 ", plain(strnum(1, "1"), strnum(2, "2 "))...)
}

// P21.2: Load takes text and fields as they are, each field in plain form, up to MaxFields.
func TestLoad(t *testing.T) {
	r := record.Load("t", []api.Value{num(1), kind(9)}, " ", "")
	holdState(t, r, "t", plain(num(1), kind(0))...)
	holdCount(t, r, 2, "", api.OK)
	holdState(t, r, "1", plain(num(1), kind(0))...)
	raw := []api.Value{num(math.NaN()), str("10"), strnum(7, "z"), kind(-1), kind(maxInt), kind(minInt), kind(1<<32 + 2)}
	holdState(t, record.Load("a b", raw, " ", ","), "a b", plain(raw...)...)
	holdState(t, record.Load("a b", nil, " ", ","), "a b")
	holdState(t, record.Load("", []api.Value{str("")}, "", ""), "", value.Str(""))
	holdState(t, record.Load(row(most+1), nil, " ", ""), row(most+1))
	full := make([]api.Value, last)
	full[last-1] = value.Num(api.One)
	holdState(t, record.Load("", full, "", ""), "", full...)
	for _, n := range []int{last + 1, last + 2, 2 * last} {
		if record.Load("", make([]api.Value, n), "", "") != nil {
			t.Errorf("%d fields are loaded", n)
		}
	}
}

// P21.2: numbers of fields from 0 to MaxFields are taken, no others, whatever else is wrong.
func TestFieldNumbers(t *testing.T) {
	r := record.New("a b", " ", "-")
	want := plain(str("a"), str("b"))
	for _, i := range []int{-1, -2, last + 1, last + 2, 1<<16 + 1, 1 << 32, 1<<32 + 1, maxInt, minInt, minInt + 1} {
		holdField(t, r, i, api.Value{}, api.ErrField)
		holdSet(t, r, i, str("q"), usual, api.ErrField)
		holdSet(t, r, i, num(0.5), "%d", api.ErrField)
		holdCount(t, r, i, usual, api.ErrField)
		holdState(t, r, "a b", want...)
	}
	for _, i := range []int{3, 4, 100, last - 1, last} {
		holdField(t, r, i, api.Value{}, api.OK)
	}
	holdState(t, r, "a b", want...)
	holdSet(t, r, last, str("z"), usual, api.OK)
	full := make([]api.Value, last)
	copy(full, want)
	full[last-1] = value.Str("z")
	holdState(t, r, "a-b"+strings.Repeat("-", last-2)+"z", full...)
	holdCount(t, r, 0, usual, api.OK)
	holdState(t, r, "")
	holdCount(t, r, last, usual, api.OK)
	holdState(t, r, strings.Repeat("-", last-1), make([]api.Value, last)...)
}

// P21.2: a field that was dropped doesn't come back, by whichever call the fields become more again.
func TestDroppedFields(t *testing.T) {
	r := record.New("a b c d", " ", " ")
	holdCount(t, r, 1, "", api.OK)
	holdCount(t, r, 3, "", api.OK)
	holdState(t, r, "a  ", plain(str("a"), kind(0), kind(0))...)
	holdCount(t, r, 0, "", api.OK)
	holdSet(t, r, 4, str("e"), "", api.OK)
	holdState(t, r, "   e", plain(kind(0), kind(0), kind(0), str("e"))...)
}

// P21.2: the text is made of the fields as they are now, strnums and strings by their texts, numbers by the format.
func TestMadeTexts(t *testing.T) {
	list := []api.Value{num(1), num(math.Copysign(0, -1)), num(0.1), num(1e6), num(1e300), num(math.Inf(-1)), num(math.NaN()), str(" s "), strnum(0.5, "0.50"), kind(0), kind(7), num(1 << 53)}
	r := record.Load("unlike", list, " ", "|")
	holdCount(t, r, len(list), "%.2e", api.OK)
	holdState(t, r, "1|0|1.00e-01|1000000|1.00e+300|-inf|nan| s |0.50|||9007199254740992", plain(list...)...)
	list[4] = strnum(7, "z")
	holdSet(t, r, 5, list[4], "<%.1f>", api.OK)
	holdState(t, r, "1|0|<0.1>|1000000|z|<-inf>|<nan>| s |0.50|||9007199254740992", plain(list...)...)
}

// P21.2: $0 set: the text by the format, the fields anew from it, each as input.
func TestSetText(t *testing.T) {
	r := record.New("old text", ".", "-")
	for _, c := range []struct {
		v      api.Value
		text   string
		fields []api.Value
	}{
		{str("a.1.2 "), "a.1.2 ", plain(str("a"), strnum(1, "1"), strnum(2, "2 "))}, {num(0.25), "0.250", plain(strnum(0, "0"), strnum(250, "250"))}, {num(7), "7", plain(strnum(7, "7"))},
		{strnum(3, "x.y"), "x.y", plain(str("x"), str("y"))}, {kind(0), "", nil}, {kind(-7), "", nil}, {str(""), "", nil}, {str("."), ".", plain(str(""), str(""))}, {num(math.Inf(1)), "inf", plain(str("inf"))},
	} {
		holdSet(t, r, 0, c.v, "%.3f", api.OK)
		holdState(t, r, c.text, c.fields...)
	}
	holdSet(t, r, 0, str(strings.Repeat("x.", last)), "", api.OK)
	if got := r.All(); len(got) != last || got[last-1] != value.Str("x.") {
		t.Errorf("%d fields", len(got))
	}
}

// P21.3: a format that is none is refused just where it is needed, in whichever field, and changes nothing.
func TestConversion(t *testing.T) {
	for _, convfmt := range []string{"", "x", "%d", "%s", "%", "%.6g%.6g", "%*g", "%5000f"} {
		r := record.Load("t u", []api.Value{num(1), str("b"), strnum(0.5, "c"), kind(0), num(0.5)}, " ", "-")
		want := r.All()
		for _, n := range []int{5, 6, last} {
			holdCount(t, r, n, convfmt, api.ErrConv)
			holdState(t, r, "t u", want...)
		}
		for _, i := range []int{1, 2, 4, 6, last} {
			holdSet(t, r, i, str("q"), convfmt, api.ErrConv)
			holdState(t, r, "t u", want...)
		}
		for _, v := range []api.Value{num(0.5), num(1 << 63), num(math.NaN()), num(math.Inf(1))} {
			holdSet(t, r, 0, v, convfmt, api.ErrConv)
			holdSet(t, r, 5, v, convfmt, api.ErrConv)
			holdState(t, r, "t u", want...)
		}
		holdSet(t, r, 5, num(2), convfmt, api.OK)
		holdState(t, r, "1-b-c--2", plain(num(1), str("b"), strnum(0.5, "c"), kind(0), num(2))...)
		holdSet(t, r, 0, strnum(0.5, "p q"), convfmt, api.OK)
		holdState(t, r, "p q", plain(str("p"), str("q"))...)
	}
}

// P21.3: a text of MaxText bytes is made, one more is refused, whether fields or what stands between make it.
func TestLongTexts(t *testing.T) {
	full, half := row(most), row(most/2)
	r := record.New("a b", " ", "-")
	want := r.All()
	holdSet(t, r, 0, str(full+"x"), "", api.ErrLong)
	holdSet(t, r, 0, strnum(1, full+"x"), "", api.ErrLong)
	holdSet(t, r, 1, str(full), "", api.ErrLong)
	holdSet(t, r, 1, str(full[1:]), "", api.ErrLong)
	holdSet(t, r, 4, str(full[4:]), "", api.ErrLong)
	holdState(t, r, "a b", want...)
	holdSet(t, r, 1, str(full[2:]), "", api.OK)
	holdState(t, r, full[2:]+"-b", plain(str(full[2:]), str("b"))...)
	holdCount(t, r, 3, "", api.ErrLong)
	holdState(t, r, full[2:]+"-b", plain(str(full[2:]), str("b"))...)
	holdSet(t, r, 2, kind(0), "", api.OK)
	holdCount(t, r, 3, "", api.OK)
	holdState(t, r, full[2:]+"--", plain(str(full[2:]), kind(0), kind(0))...)
	holdSet(t, r, 0, str(full), "", api.OK)
	holdState(t, r, full, plain(str(full))...)
	r.Seps(" ", half)
	holdSet(t, r, 0, str("a b c"), "", api.OK)
	holdCount(t, r, 3, "", api.ErrLong)
	holdState(t, r, "a b c", plain(str("a"), str("b"), str("c"))...)
	holdCount(t, r, 2, "", api.OK)
	holdState(t, r, "a"+half+"b", plain(str("a"), str("b"))...)
	holdCount(t, r, 0, "", api.OK)
	holdCount(t, r, 3, "", api.OK)
	holdState(t, r, half+half, make([]api.Value, 3)...)
}

// P21.2: a text that is too long to be made may come from New and Load, and is dropped by the next call that makes one.
func TestGivenLongTexts(t *testing.T) {
	long := row(most) + " y"
	r := record.New(long, " ", "")
	holdState(t, r, long, plain(str(long[:most]), str("y"))...)
	holdCount(t, r, 2, "", api.ErrLong)
	holdState(t, r, long, plain(str(long[:most]), str("y"))...)
	holdSet(t, r, 1, str("x"), "", api.OK)
	holdState(t, r, "xy", plain(str("x"), str("y"))...)
	r = record.Load(long, []api.Value{str(long)}, " ", "")
	holdCount(t, r, 1, "", api.ErrLong)
	holdSet(t, r, 2, num(0.5), "%d", api.ErrConv)
	holdCount(t, r, 0, "", api.OK)
	holdState(t, r, "")
}

// P21.3: the texts of all fields are made ahead of a look at the whole: so ErrConv, wherever it arises, comes ahead of a text that is too long.
func TestWhichError(t *testing.T) {
	long, half := str(row(most)), num(0.5)
	for _, c := range []struct {
		list    []api.Value
		convfmt string
		want    api.Errno
	}{
		{[]api.Value{long, half}, "%d", api.ErrConv}, {[]api.Value{half, long}, "%d", api.ErrConv}, {[]api.Value{long, long, num(2), kind(0), half}, "", api.ErrConv}, {[]api.Value{long, long, num(2), half, str("x"), half}, "%s", api.ErrConv},
		{[]api.Value{long, half}, usual, api.ErrLong}, {[]api.Value{half, long}, usual, api.ErrLong}, {[]api.Value{long, num(2)}, "%d", api.ErrLong}, {[]api.Value{long, str("0.5")}, "%d", api.ErrLong}, {[]api.Value{long, strnum(0.5, "0.5")}, "%d", api.ErrLong},
		{[]api.Value{half}, row(most) + "%g", api.ErrLong}, {[]api.Value{long, half}, row(most) + "%g", api.ErrLong}, {[]api.Value{half, long}, row(most) + "%g", api.ErrLong}, {[]api.Value{long, half}, row(most) + "%d", api.ErrConv}, {[]api.Value{half}, row(most) + "%d", api.ErrConv},
		{[]api.Value{half}, row(most-3) + "%g", api.OK}, {[]api.Value{half, num(1)}, row(most-5) + "%g", api.OK}, {[]api.Value{half, num(1)}, row(most-4) + "%g", api.ErrLong},
	} {
		r := record.Load("t", c.list, " ", ",")
		holdCount(t, r, len(c.list), c.convfmt, c.want)
		r = record.Load("t", c.list[:len(c.list)-1], " ", ",")
		holdSet(t, r, len(c.list), c.list[len(c.list)-1], c.convfmt, c.want)
		if c.want != api.OK {
			holdState(t, r, "t", plain(c.list[:len(c.list)-1]...)...)
		}
	}
	r := record.New("t", " ", "")
	holdSet(t, r, 0, half, row(most-2)+"%g", api.ErrLong)
	holdSet(t, r, 0, half, row(most)+"%d", api.ErrConv)
	holdState(t, r, "t", value.Str("t"))
	holdSet(t, r, 0, half, row(most-3)+"%g", api.OK)
}

// P1: what is far too long is refused without being made: neither by a long format and many numbers, nor by a long separator.
func TestFarTooLong(t *testing.T) {
	halves := plain(slices.Repeat([]api.Value{num(0.5)}, last)...)
	var before, after runtime.MemStats
	runtime.ReadMemStats(&before)
	r := record.Load("t", halves, " ", row(4*most))
	holdCount(t, r, last, row(most-3)+"%g", api.ErrLong)
	holdCount(t, r, last, "%g", api.ErrLong)
	holdSet(t, r, last, str(row(most)), row(most-3)+"%g", api.ErrLong)
	runtime.ReadMemStats(&after)
	holdState(t, r, "t", halves...)
	if took := after.TotalAlloc - before.TotalAlloc; took > 1<<31 {
		t.Errorf("%d bytes of memory were taken", took)
	}
}

// P21.2, P21.3: records in every order of calls are what the model is, behind errors too.
func TestDrawnCalls(t *testing.T) {
	seed := uint64(214)
	met := map[api.Errno]int{}
	for range 6000 {
		m := model{fs: drawSep(&seed), ofs: draw(&seed, 2)}
		var r *record.Record
		if text := draw(&seed, 20); random(&seed)%2 == 0 {
			m = m.read(text)
			r = record.New(text, m.fs, m.ofs)
		} else {
			raw := make([]api.Value, between(&seed, 0, 5))
			for i := range raw {
				raw[i] = drawValue(&seed)
			}
			m.text, m.fields = text, plain(raw...)
			r = record.Load(text, raw, m.fs, m.ofs)
		}
		for range between(&seed, 1, 12) {
			var want, got api.Errno
			v, convfmt := drawValue(&seed), drawFormat(&seed)
			i := pick(&seed, 0, between(&seed, 1, 4), between(&seed, 1, 9), between(&seed, -2, 40), last+between(&seed, 1, 9))
			switch between(&seed, 0, 3) {
			case 0:
				m, want = m.setCount(i, convfmt)
				got = r.SetCount(i, convfmt)
			case 1:
				m.fs, m.ofs = drawSep(&seed), draw(&seed, 2)
				r.Seps(m.fs, m.ofs)
			default:
				m, want = m.set(i, v, convfmt)
				got = r.Set(i, v, convfmt)
			}
			if got != want {
				t.Fatalf("error %d, want %d, with %d, %v, %q; fields %v", got, want, i, v, convfmt, m.fields)
			}
			met[got]++
			holdState(t, r, m.text, m.fields...)
		}
	}
	for _, e := range []api.Errno{api.OK, api.ErrField, api.ErrConv} {
		if met[e] < 1000 {
			t.Errorf("error %d was met only %d times", e, met[e])
		}
	}
}

// P21.2: a nil record does nothing, and answers ErrState ahead of all other errors.
func TestNilRecord(t *testing.T) {
	var r *record.Record
	r.Seps(" ", "-")
	if r.Text() != "" || r.Count() != 0 || len(r.All()) != 0 {
		t.Errorf("a nil record has %q, %d, %v", r.Text(), r.Count(), r.All())
	}
	for _, i := range []int{0, 1, -1, last, last + 1, maxInt, minInt} {
		holdField(t, r, i, api.Value{}, api.ErrState)
		holdSet(t, r, i, num(0.5), "%d", api.ErrState)
		holdSet(t, r, i, str(row(10)), usual, api.ErrState)
		holdCount(t, r, i, "%d", api.ErrState)
	}
}
