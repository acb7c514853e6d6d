package record_test

import (
	"fmt"
	"slices"
	"strings"
	"sync"
	"testing"
	"unsafe"

	"abacus/api"
	"abacus/record"
	"abacus/value"
)

// shares: whether two texts lie in one memory, in part at least.
func shares(a string, b string) bool {
	if a == "" || b == "" {
		return false
	}
	p, q := uintptr(unsafe.Pointer(unsafe.StringData(a))), uintptr(unsafe.Pointer(unsafe.StringData(b)))
	return p < q+uintptr(len(b)) && q < p+uintptr(len(a))
}

// textsOf: all the texts that a record answers.
func textsOf(r *record.Record) []string {
	list := []string{r.Text()}
	for _, v := range r.All() {
		list = append(list, v.Str)
	}
	for i := range r.Count() + 1 {
		v, _ := r.Field(i)
		list = append(list, v.Str)
	}
	return list
}

// set: the record, with $i set.
func set(r *record.Record, i int, v api.Value) *record.Record {
	r.Set(i, v, usual)
	return r
}

// made: all the texts that the calls answer which can answer s or a piece of it.
func made(s string) map[string][]string {
	empty := func() *record.Record { return record.New("", " ", "") }
	joined := record.New("1 2", " ", s)
	joined.SetCount(2, "")
	parted := record.New("", s, "")
	parted.Set(0, str("pq"+s+"rs"), "")
	return map[string][]string{
		"Lines":             record.Lines(s, "e"),
		"Lines by another":  record.Lines(s, "?"),
		"Lines by nothing":  record.Lines(s, ""),
		"Fields by a blank": record.Fields(s, " "),
		"Fields by nothing": record.Fields(s, ""),
		"Fields by a text":  record.Fields(s, "e"),
		"New":               textsOf(record.New(s, " ", "")),
		"New by another":    textsOf(record.New(s, "?", "")),
		"Load":              textsOf(record.Load(s, []api.Value{str(s), strnum(1, s)}, s, s)),
		"Set of the text":   textsOf(set(empty(), 0, str(s))),
		"Set of a string":   textsOf(set(empty(), 1, str(s))),
		"Set of a strnum":   textsOf(set(empty(), 2, strnum(1, s))),
		"the separator ofs": textsOf(joined),
		"the separator fs":  textsOf(parted),
	}
}

// P21.4: no answer is a piece of a text that was handed in.
func TestNewMemory(t *testing.T) {
	for _, given := range []string{"e", "te t", "12", strings.Repeat("text ", 500)} {
		s := strings.Clone(given)
		for name, list := range made(s) {
			for _, text := range list {
				if shares(text, s) {
					t.Errorf("%s answers a piece of its text", name)
				}
			}
		}
	}
}

// P21.4: no two parts of one answer lie in one another, and no answer of a record in another.
func TestAnswersShareNothing(t *testing.T) {
	r := record.New("text of 12 words", " ", "-")
	lists := [][]string{record.Lines("a\nb\nc", "\n"), record.Lines("a\n\nb\n\nc", ""), record.Fields("a b c", " "), record.Fields("a,b,c", ","), record.Fields("abc", ""), append(textsOf(r), textsOf(r)...)}
	for _, list := range lists {
		for i := range list {
			for j := range i {
				if shares(list[i], list[j]) {
					t.Errorf("%q: %d and %d share memory", list, j, i)
				}
			}
		}
	}
}

// P21.4: a text's memory that is written over behind the call changes neither an answer nor a record.
func TestTextsAreNotKept(t *testing.T) {
	memory := []byte("b e b")
	s := unsafe.String(&memory[0], len(memory))
	want := made("b e b")
	for name, list := range made(s) {
		if !slices.Equal(list, want[name]) {
			t.Errorf("%s: %q, want %q", name, list, want[name])
		}
	}
	plain := record.New(s, "?", "")
	loaded := record.Load(s, []api.Value{str(s), strnum(1, s)}, "?", "")
	changed := set(set(record.New("", "?", ""), 0, str(s)), 2, strnum(1, s))
	copy(memory, "zzzzz")
	holdState(t, plain, "b e b", value.Str("b e b"))
	holdState(t, loaded, "b e b", value.Str("b e b"), value.Plain(strnum(1, "b e b")))
	holdState(t, changed, "b e bb e b", value.Str("b e b"), value.Plain(strnum(1, "b e b")))
}

// P21.4: the separators are kept as copies, by New, Load and Seps.
func TestSeparatorsAreNotKept(t *testing.T) {
	memory := []byte(",-")
	fs, ofs := unsafe.String(&memory[0], 1), unsafe.String(&memory[1], 1)
	list := []*record.Record{record.New("", fs, ofs), record.Load("", nil, fs, ofs), record.New("", " ", " ")}
	list[2].Seps(fs, ofs)
	copy(memory, "zz")
	for _, r := range list {
		holdSet(t, r, 0, str("a,b"), "", api.OK)
		holdCount(t, r, 2, "", api.OK)
		holdState(t, r, "a-b", value.Str("a"), value.Str("b"))
	}
}

// P21.4: a list that is handed in isn't changed or kept, its spare room neither, and one that is answered belongs to the caller.
func TestLists(t *testing.T) {
	all := []api.Value{str("a"), num(1), kind(7), str("b"), str("c")}
	before := slices.Clone(all)
	r := record.Load("t", all[1:3], " ", "-")
	holdSet(t, r, 1, str("x"), "", api.OK)
	holdSet(t, r, 4, str("y"), "", api.OK)
	if !slices.Equal(all, before) {
		t.Errorf("the list became %v", all)
	}
	want := []api.Value{value.Str("x"), {}, {}, value.Str("y")}
	clear(all)
	holdState(t, r, "x---y", want...)
	answer := r.All()
	clear(answer[:cap(answer)])
	holdState(t, r, "x---y", want...)
	kept := r.All()
	holdCount(t, r, 1, "", api.OK)
	holdSet(t, r, 1, str("z"), "", api.OK)
	if !slices.Equal(kept, want) {
		t.Errorf("an answer became %v", kept)
	}
	lines, again := record.Lines("a\nb\nc", "\n"), record.Lines("a\nb\nc", "\n")
	clear(lines[:cap(lines)])
	if !slices.Equal(again, []string{"a", "b", "c"}) {
		t.Errorf("another answer became %q", again)
	}
}

// P21.4: two records know nothing of one another, though they were made of the same things.
func TestTwoRecords(t *testing.T) {
	fields := record.New("a b c", " ", "-").All()
	list := []*record.Record{record.New("a b c", " ", "-"), record.New("a b c", " ", "-"), record.Load("a b c", fields, " ", "-"), record.Load("a b c", fields, " ", "-")}
	for i, r := range list {
		r.Seps(",", "+")
		holdSet(t, r, 1, num(float64(i)), "", api.OK)
		holdCount(t, r, 2, "", api.OK)
		for _, other := range list[i+1:] {
			holdState(t, other, "a b c", fields...)
		}
	}
	for i, r := range list {
		holdState(t, r, fmt.Sprintf("%d+b", i), value.Plain(num(float64(i))), value.Str("b"))
	}
}

// P2: the same calls answer the same, whatever was called ahead of them or beside them; a record that is only asked may be asked by many.
func TestNothingIsKept(t *testing.T) {
	shared := record.New("1 b 2.5", " ", "-")
	want := answers(shared)
	var group sync.WaitGroup
	for range 8 {
		group.Go(func() {
			for range 100 {
				if got := answers(shared); got != want {
					t.Errorf("%s, then %s", want, got)
				}
			}
		})
	}
	group.Wait()
}

// answers: what some calls answer.
func answers(shared *record.Record) string {
	list := []any{textsOf(shared), shared.Count(), shared.All()}
	for _, s := range []string{"", "a b\n\n1 , 2\n", "\xc3\xa9,,"} {
		for _, sep := range []string{"", " ", ",", "\n"} {
			r := record.New(s, sep, ";")
			list = append(list, record.Lines(s, sep), record.Fields(s, sep), r.Set(3, num(0.5), "%.3f"), r.All(), r.SetCount(2, "%d"), r.Text())
		}
	}
	return fmt.Sprint(list...)
}
