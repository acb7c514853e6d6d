package chars_test

import (
	"slices"
	"testing"

	"abacus/api"
	"abacus/chars"
)

// P20.4: the chapter's examples of Join and Cat, and their edges.
func TestJoin(t *testing.T) {
	for _, c := range []struct {
		parts []string
		sep   string
		want  string
	}{
		{[]string{"a", "b", "c"}, "-", "a-b-c"}, {nil, "-", ""}, {nil, "", ""}, {[]string{}, "-", ""}, {[]string{"a", "", "b"}, "", "ab"}, {[]string{"a", "", "b"}, ",", "a,,b"},
		{[]string{"a"}, "-", "a"}, {[]string{""}, "-", ""}, {[]string{"", ""}, "-", "-"}, {[]string{"", "", ""}, "ab", "abab"}, {[]string{"\xc3", "\xa9"}, "", "\xc3\xa9"}, {[]string{"\x00", "\xff"}, "\x00", "\x00\x00\xff"},
	} {
		holdJoin(t, c.parts, c.sep, c.want, api.OK)
	}
	if s, e := chars.Cat(); s != "" || e != api.OK {
		t.Errorf("Cat() = %q, %d", s, e)
	}
	if s, e := chars.Cat("a", "", "b"); s != "ab" || e != api.OK {
		t.Errorf("Cat(a, , b) = %q, %d", s, e)
	}
}

// P20.4: drawn parts, one behind the other, and what stands between.
func TestJoinOfDrawnParts(t *testing.T) {
	seed := uint64(204)
	for range 20000 {
		parts, sep := drawList(&seed, 9), draw(&seed, 3)
		holdJoin(t, parts, sep, glued(parts, sep), api.OK)
		holdJoin(t, parts, "", glued(parts, ""), api.OK)
	}
}

// P20.4: MaxText bytes are answered, one more is refused, whether the parts or what stands between make it.
func TestJoinAtTheLimit(t *testing.T) {
	half, most := row(1<<23), row(1<<24)
	holdJoin(t, []string{most}, "", most, api.OK)
	holdJoin(t, []string{most}, "longer", most, api.OK)
	holdJoin(t, []string{most + "x"}, "", "", api.ErrLong)
	holdJoin(t, []string{half, half}, "", most, api.OK)
	holdJoin(t, []string{half, half}, "x", "", api.ErrLong)
	holdJoin(t, []string{half, half[1:]}, "x", most, api.OK)
	holdJoin(t, []string{half, half[1:], ""}, "x", "", api.ErrLong)
	holdJoin(t, []string{half, "", half}, "", most, api.OK)
	holdJoin(t, []string{half, "x", half}, "", "", api.ErrLong)
	holdJoin(t, []string{"", ""}, most, most, api.OK)
	holdJoin(t, []string{"", ""}, most+"x", "", api.ErrLong)
	holdJoin(t, []string{"", ""}, most+most, "", api.ErrLong)
	holdJoin(t, []string{"x", ""}, most, "", api.ErrLong)
	holdJoin(t, []string{"", "", ""}, half, most, api.OK)
	holdJoin(t, []string{"", "", "", ""}, half, "", api.ErrLong)
	holdJoin(t, []string{""}, most+"x", "", api.OK)
	holdJoin(t, nil, most+"x", "", api.OK)
}

// P20.4: many parts, the same text again and again: the length is counted, not made.
func TestJoinOfFarTooMuch(t *testing.T) {
	holdJoin(t, slices.Repeat([]string{row(1 << 24)}, 100000), "", "", api.ErrLong)
	holdJoin(t, make([]string, 100000), row(1<<24), "", api.ErrLong)
	holdJoin(t, make([]string, 1000000), "", "", api.OK)
	holdJoin(t, make([]string, 1<<24+1), "x", row(1<<24), api.OK)
	holdJoin(t, make([]string, 1<<24+2), "x", "", api.ErrLong)
}
