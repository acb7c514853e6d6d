package chars_test

import (
	"syscall"
	"testing"
	"unsafe"

	"abacus/api"
)

// P20.4: the chapter's examples of Replace, and its edges.
func TestReplace(t *testing.T) {
	for _, c := range []struct {
		s, old, with string
		most         int
		want         string
		count        int
	}{
		{"banana", "an", "<>", -1, "b<><>a", 2}, {"banana", "an", "", 1, "bana", 1}, {"aaa", "aa", "b", -1, "ba", 1}, {"ab", "", "-", -1, "-a-b-", 3}, {"ab", "", "-", 2, "-a-b", 2},
		{"", "", "x", -1, "x", 1}, {"ab", "x", "y", 5, "ab", 0}, {"ab", "", "-", 0, "ab", 0}, {"ab", "", "-", 1, "-ab", 1}, {"ab", "", "-", 3, "-a-b-", 3}, {"ab", "", "-", 4, "-a-b-", 3},
		{"banana", "a", "A", 0, "banana", 0}, {"banana", "a", "A", 1, "bAnana", 1}, {"banana", "a", "A", 2, "bAnAna", 2}, {"banana", "a", "A", 3, "bAnAnA", 3}, {"banana", "a", "A", 4, "bAnAnA", 3},
		{"banana", "a", "A", maxInt, "bAnAnA", 3}, {"banana", "a", "A", minInt, "bAnAnA", 3}, {"banana", "a", "A", -2, "bAnAnA", 3}, {"banana", "banana", "", -1, "", 1}, {"banana", "bananas", "x", -1, "banana", 0},
		{"aaa", "a", "aa", -1, "aaaaaa", 3}, {"aab", "ab", "b", -1, "ab", 1}, {"ab", "", "", -1, "ab", 3}, {"aa", "a", "a", -1, "aa", 2}, {"", "a", "x", -1, "", 0}, {"", "", "", -1, "", 1}, {"", "", "x", 0, "", 0}, {"", "", "x", 5, "x", 1},
		{"a.b", ".", "&", -1, "a&b", 1}, {"ab", ".", "x", -1, "ab", 0}, {"a&b", "&", "\\&", -1, "a\\&b", 1}, {"a\x00b", "\x00", "\xff\xff", -1, "a\xff\xffb", 1},
	} {
		holdReplace(t, c.s, c.old, c.with, c.most, c.want, c.count, api.OK)
	}
}

// P20.4: the places of the empty text stand ahead of bytes, not of runes.
func TestReplaceOfNothingGoesByBytes(t *testing.T) {
	holdReplace(t, "\xc3\xa9", "", "-", -1, "-\xc3-\xa9-", 3, api.OK)
	holdReplace(t, "\xc3\xa9", "", "-", 2, "-\xc3-\xa9", 2, api.OK)
	holdReplace(t, "\xc3\xa9x", "\xa9", "", -1, "\xc3x", 1, api.OK)
	holdReplace(t, "\xff", "", "\xff", -1, "\xff\xff\xff", 2, api.OK)
}

// P20.4: drawn texts, replaced as often as is asked for.
func TestReplaceOfDrawnTexts(t *testing.T) {
	seed := uint64(205)
	met := make([]int, 4)
	for range 50000 {
		s, old, with := draw(&seed, 30), draw(&seed, 3), draw(&seed, 4)
		most := pick(&seed, -1, 0, 1, 2, 3, between(&seed, 0, 40), minInt, maxInt)
		places := stands(s, old)
		if most >= 0 && most < len(places) {
			places = places[:most]
		}
		holdReplace(t, s, old, with, most, glued(cut(s, places, len(old)), with), len(places), api.OK)
		met[min(len(places), 3)]++
	}
	for count, times := range met {
		if times < 2000 {
			t.Errorf("%d places were met only %d times", count, times)
		}
	}
}

// P20.4: MaxText bytes are answered, one more is refused; it is the answer that is asked, not what it is made of.
func TestReplaceAtTheLimit(t *testing.T) {
	half, most := row(1<<23), row(1<<24)
	holdReplace(t, half+"y", "y", half, -1, most, 1, api.OK)
	holdReplace(t, half+"y", "y", half+"x", -1, "", 0, api.ErrLong)
	holdReplace(t, half+"yx", "y", half, -1, "", 0, api.ErrLong)
	holdReplace(t, half, "x", "xx", -1, most, 1<<23, api.OK)
	holdReplace(t, half+"x", "x", "xx", -1, "", 0, api.ErrLong)
	holdReplace(t, half+"x", "x", "xx", 1<<23-1, most, 1<<23-1, api.OK)
	holdReplace(t, half+"x", "x", "xx", 1<<23, "", 0, api.ErrLong)
	holdReplace(t, half[1:], "", "x", -1, most[1:], 1<<23, api.OK)
	holdReplace(t, half, "", "x", 1<<23, most, 1<<23, api.OK)
	holdReplace(t, half, "", "x", -1, "", 0, api.ErrLong)
	holdReplace(t, "", "", most, -1, most, 1, api.OK)
	holdReplace(t, "", "", most+"x", -1, "", 0, api.ErrLong)
	holdReplace(t, most, "x", "x", -1, most, 1<<24, api.OK)
}

// P20.4: a text above MaxText is refused where it is the answer, and taken where the answer is shorter.
func TestReplaceInALongText(t *testing.T) {
	most := row(1 << 24)
	holdReplace(t, most, "y", "", -1, most, 0, api.OK)
	holdReplace(t, most, "x", "xx", 0, most, 0, api.OK)
	holdReplace(t, most+"x", "y", "", -1, "", 0, api.ErrLong)
	holdReplace(t, most+"x", "x", "", 0, "", 0, api.ErrLong)
	holdReplace(t, most+"x", "", "", -1, "", 0, api.ErrLong)
	holdReplace(t, most+"y", "y", "", -1, most, 1, api.OK)
	holdReplace(t, most+"yy", "y", "", 1, "", 0, api.ErrLong)
	holdReplace(t, most+"yy", "yy", "", 1, most, 1, api.OK)
	holdReplace(t, most+most, "xx", "x", -1, most, 1<<24, api.OK)
	holdReplace(t, most+most, "x", "", -1, "", 1<<25, api.OK)
	holdReplace(t, "abc", "b", most+most, 0, "abc", 0, api.OK)
	holdReplace(t, "abc", most+most, "x", -1, "abc", 0, api.OK)
	holdReplace(t, row(1<<24), "x", row(1<<24), -1, "", 0, api.ErrLong)
	holdReplace(t, row(1<<24), "", row(1<<24), -1, "", 0, api.ErrLong)
}

// zeros: a text of so many bytes 00, in pages of the system's that are never written to and so take no memory.
func zeros(t *testing.T, count int) string {
	memory, err := syscall.Mmap(-1, 0, count, syscall.PROT_READ, syscall.MAP_ANON|syscall.MAP_PRIVATE)
	if err != nil {
		t.Fatal(err)
	}
	t.Cleanup(func() { syscall.Munmap(memory) })
	return unsafe.String(&memory[0], count)
}

// P20.4, P1: texts so long that the length of the answer goes round in an int, to below 0 or to a small number (65535).
func TestReplaceBeyondAnInt(t *testing.T) {
	all := zeros(t, 1<<32+65535)
	s := all[:3037000500]
	holdReplace(t, s, "", s, -1, "", 0, api.ErrLong)
	holdReplace(t, s, "\x00", s, -1, "", 0, api.ErrLong)
	holdReplace(t, all, "", all[:1<<32-65536], -1, "", 0, api.ErrLong)
	holdReplace(t, all, "", all[:1<<32-65536], maxInt, "", 0, api.ErrLong)
	holdReplace(t, all, all, all, -1, "", 0, api.ErrLong)
	holdReplace(t, all, all, "y", -1, "y", 1, api.OK)
	holdReplace(t, "abc", "b", all, 1, "", 0, api.ErrLong)
	holdReplace(t, "abc", "b", all, 0, "abc", 0, api.OK)
	holdReplace(t, "abc", all, all, -1, "abc", 0, api.OK)
}
