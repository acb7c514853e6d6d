package nat_test

import (
	"slices"
	"testing"

	"abacus/api"
	"abacus/nat"
)

// call: one of the package's calls over two operands (a call of one takes the first); it answers the list that the call answered, if it answers one.
type call struct {
	name string
	do   func(a, b []uint64) []uint64
}

func calls() []call {
	first := func(a []uint64, _ api.Errno) []uint64 { return a }
	return []call{
		{"Trim", func(a, b []uint64) []uint64 { return nat.Trim(a) }},
		{"ToUint", func(a, b []uint64) []uint64 { nat.ToUint(a); return nil }},
		{"BitLen", func(a, b []uint64) []uint64 { nat.BitLen(a); return nil }},
		{"Bit", func(a, b []uint64) []uint64 { nat.Bit(a, 65); return nil }},
		{"Trail", func(a, b []uint64) []uint64 { nat.Trail(a); return nil }},
		{"Cmp", func(a, b []uint64) []uint64 { nat.Cmp(a, b); return nil }},
		{"Add", func(a, b []uint64) []uint64 { return first(nat.Add(a, b)) }},
		{"Sum of one", func(a, b []uint64) []uint64 { return first(nat.Sum(a)) }},
		{"Sum", func(a, b []uint64) []uint64 { return first(nat.Sum(a, b, a)) }},
		{"Sub", func(a, b []uint64) []uint64 { return first(nat.Sub(a, b)) }},
		{"Mul", func(a, b []uint64) []uint64 { return first(nat.Mul(a, b)) }},
		{"MulAdd", func(a, b []uint64) []uint64 { return first(nat.MulAdd(a, 10, 9)) }},
		{"MulAdd by 1", func(a, b []uint64) []uint64 { return first(nat.MulAdd(a, 1, 0)) }},
		{"DivSmall", func(a, b []uint64) []uint64 { q, _, _ := nat.DivSmall(a, 10); return q }},
		{"DivSmall by 1", func(a, b []uint64) []uint64 { q, _, _ := nat.DivSmall(a, 1); return q }},
		{"DivSmall by 0", func(a, b []uint64) []uint64 { q, _, _ := nat.DivSmall(a, 0); return q }},
		{"Shl", func(a, b []uint64) []uint64 { return first(nat.Shl(a, 67)) }},
		{"Shl by 0", func(a, b []uint64) []uint64 { return first(nat.Shl(a, 0)) }},
		{"Shl by -1", func(a, b []uint64) []uint64 { return first(nat.Shl(a, -1)) }},
		{"Low", func(a, b []uint64) []uint64 { return first(nat.Low(a, 67)) }},
		{"Low by limbs", func(a, b []uint64) []uint64 { return first(nat.Low(a, 64)) }},
		{"Low of all", func(a, b []uint64) []uint64 { return first(nat.Low(a, maxInt)) }},
		{"Shr", func(a, b []uint64) []uint64 { q, _, _ := nat.Shr(a, 3); return q }},
		{"Shr by limbs", func(a, b []uint64) []uint64 { q, _, _ := nat.Shr(a, 64); return q }},
		{"Shr by 0", func(a, b []uint64) []uint64 { q, _, _ := nat.Shr(a, 0); return q }},
	}
}

// roomy: a with spare room behind it that holds marks, and the whole of its memory.
func roomy(a []uint64) ([]uint64, []uint64) {
	whole := append(slices.Clone(a), 0xabc, 0xdef, top, 1, 2, 3)
	return whole[:len(a)], whole
}

// scribble writes over a list and its spare room.
func scribble(a []uint64) {
	a = a[:cap(a)]
	for i := range a {
		a[i] = 0x5c5c5c5c
	}
}

// P1.8: operands and their spare room stay as they are, while the call runs and when its answer is written over.
func TestOperandsStay(t *testing.T) {
	lists := append(samples(), fill(api.MaxLimbs, top), fill(api.MaxLimbs+1, top))
	others := [][]uint64{nil, {1}, {top, top, 0}, fill(9, top)}
	for _, c := range calls() {
		for _, x := range lists {
			for _, y := range others {
				a, wholeA := roomy(x)
				b, wholeB := roomy(y)
				beforeA, beforeB := slices.Clone(wholeA), slices.Clone(wholeB)
				scribble(c.do(a, b))
				scribble(c.do(b, a))
				if !slices.Equal(wholeA, beforeA) || !slices.Equal(wholeB, beforeB) {
					t.Fatalf("%s changes an operand or shares its memory: %v, %v", c.name, x, y)
				}
			}
		}
	}
}

// P1.8: each answer is new memory: writing over one doesn't touch the next, nor what is answered later.
func TestAnswersAreNew(t *testing.T) {
	for _, c := range calls() {
		for _, x := range samples() {
			one := c.do(x, []uint64{1})
			want := slices.Clone(one)
			two := c.do(x, []uint64{1})
			scribble(one)
			if !slices.Equal(two, want) {
				t.Fatalf("%s: two answers share memory", c.name)
			}
			scribble(two)
			if three := c.do(x, []uint64{1}); !slices.Equal(three, want) {
				t.Fatalf("%s: an answer hangs on an earlier one's memory", c.name)
			}
		}
	}
	for _, x := range []uint64{0, 1, top} {
		one, want := nat.FromUint(x), nat.FromUint(x)
		scribble(one)
		if got := nat.FromUint(x); !slices.Equal(got, want) {
			t.Errorf("FromUint(%d): answers share memory", x)
		}
	}
}

// P1.8: operands that share memory with each other are read as they stand.
func TestOperandsOverlap(t *testing.T) {
	whole := []uint64{top, 5, 0, top, 7, 1}
	before := slices.Clone(whole)
	for _, c := range calls() {
		for i := range whole {
			for j := range whole {
				a, b := whole[:i+1], whole[j:]
				want := c.do(slices.Clone(a), slices.Clone(b))
				if got := c.do(a, b); !slices.Equal(got, want) {
					t.Errorf("%s of lists that overlap: %v, want %v", c.name, got, want)
				}
			}
		}
	}
	if !slices.Equal(whole, before) {
		t.Errorf("the operands are now %v", whole)
	}
}

// P1.8: Sum's list of lists stays as it is, its spare room too.
func TestSumListStays(t *testing.T) {
	whole := [][]uint64{{1, 0, 0}, nil, {top, 0}, {}, {0, 0, 9}, {42, 0}, nil}
	before := slices.Clone(whole)
	for i, a := range whole {
		before[i] = slices.Clone(a)
	}
	s, e := nat.Sum(whole[:5]...)
	list(t, "Sum", s, e, []uint64{0, 1, 9})
	scribble(s)
	for i, a := range whole {
		if len(a) != len(before[i]) || !slices.Equal(a, before[i]) || (a == nil) != (before[i] == nil) {
			t.Errorf("Sum's list %d is now %v", i, a)
		}
	}
	same := []uint64{3}
	kept := [][]uint64{same, same}
	nat.Sum(kept...)
	if &kept[0][0] != &same[0] || &kept[1][0] != &same[0] {
		t.Error("Sum put other lists into its list")
	}
}
