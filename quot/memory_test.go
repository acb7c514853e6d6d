package quot_test

import (
	"slices"
	"testing"

	"abacus/api"
	"abacus/quot"
)

// call: one of the package's calls over two operands (a call of one takes the first); it answers the lists that the call answered.
type call struct {
	name string
	do   func(a, b []uint64) [][]uint64
}

func calls() []call {
	one := func(a []uint64, _ api.Errno) [][]uint64 { return [][]uint64{a} }
	return []call{
		{"DivMod", func(a, b []uint64) [][]uint64 { q, r, _ := quot.DivMod(a, b); return [][]uint64{q, r} }},
		{"Near", func(a, b []uint64) [][]uint64 { return one(quot.Near(a, b)) }},
		{"Pow to 0", func(a, b []uint64) [][]uint64 { return one(quot.Pow(a, 0)) }},
		{"Pow to 1", func(a, b []uint64) [][]uint64 { return one(quot.Pow(a, 1)) }},
		{"Pow to 3", func(a, b []uint64) [][]uint64 { return one(quot.Pow(a, 3)) }},
		{"Pow to -1", func(a, b []uint64) [][]uint64 { return one(quot.Pow(a, -1)) }},
		{"Pow5", func(a, b []uint64) [][]uint64 { return one(quot.Pow5(30)) }},
		{"Pow5 to 1", func(a, b []uint64) [][]uint64 { return one(quot.Pow5(1)) }},
		{"Pow10", func(a, b []uint64) [][]uint64 { return one(quot.Pow10(30)) }},
		{"Pow10 to 0", func(a, b []uint64) [][]uint64 { return one(quot.Pow10(0)) }},
		{"Log", func(a, b []uint64) [][]uint64 { quot.Log(a, 10); return nil }},
		{"Root", func(a, b []uint64) [][]uint64 { r, _, _ := quot.Root(a); return [][]uint64{r} }},
	}
}

// roomy: a with spare room behind it that holds marks, and the whole of its memory.
func roomy(a []uint64) ([]uint64, []uint64) {
	all := append(slices.Clone(a), 0xabc, 0xdef, top, 1, 2, 3)
	return all[:len(a)], all
}

// scribble writes over lists and their spare room.
func scribble(lists ...[]uint64) {
	for _, a := range lists {
		a = a[:cap(a)]
		for i := range a {
			a[i] = 0x5c5c5c5c
		}
	}
}

// copied: the lists as they stand.
func copied(lists [][]uint64) [][]uint64 {
	var out [][]uint64
	for _, a := range lists {
		out = append(out, slices.Clone(a))
	}
	return out
}

func alike(a, b [][]uint64) bool {
	return slices.EqualFunc(a, b, func(x, y []uint64) bool { return slices.Equal(x, y) })
}

// P2, rule 3: operands and their spare room stay as they are, while the call runs and when its answers are written over.
func TestOperandsStay(t *testing.T) {
	lists := append(append(samples(), zeros()...), fill(300, top), fill(api.MaxLimbs+1, top))
	others := [][]uint64{nil, {1}, {2}, {7, 0}, {top, top, 0}, {0, half}, fill(9, top)}
	for _, c := range calls() {
		for _, x := range lists {
			for _, y := range others {
				a, wholeA := roomy(x)
				b, wholeB := roomy(y)
				beforeA, beforeB := slices.Clone(wholeA), slices.Clone(wholeB)
				scribble(c.do(a, b)...)
				scribble(c.do(b, a)...)
				if !slices.Equal(wholeA, beforeA) || !slices.Equal(wholeB, beforeB) {
					t.Fatalf("%s changes an operand or shares its memory: %v, %v", c.name, x, y)
				}
			}
		}
	}
}

// P2, rules 3 and 4: each answer is new memory: writing over one doesn't touch another, nor what is answered later.
func TestAnswersAreNew(t *testing.T) {
	for _, c := range calls() {
		for _, x := range samples() {
			for _, y := range [][]uint64{{1}, {3}, {top, 1}, fill(9, 5)} {
				first := c.do(x, y)
				want := copied(first)
				second := c.do(x, y)
				for i := range first {
					scribble(first[i])
					if !alike(first[i+1:], want[i+1:]) || !alike(second, want) {
						t.Fatalf("%s: two answers share memory", c.name)
					}
				}
				scribble(second...)
				if third := c.do(x, y); !alike(third, want) {
					t.Fatalf("%s: an answer hangs on an earlier one's memory", c.name)
				}
			}
		}
	}
}

// P2, rule 3: operands that share memory with each other are read as they stand.
func TestOperandsOverlap(t *testing.T) {
	memory := []uint64{top, 5, 0, top, 7, 1}
	before := slices.Clone(memory)
	for _, c := range calls() {
		for i := range memory {
			for j := range memory {
				a, b := memory[:i+1], memory[j:]
				want := c.do(slices.Clone(a), slices.Clone(b))
				if got := c.do(a, b); !alike(got, want) {
					t.Errorf("%s of lists that overlap: %v, want %v", c.name, got, want)
				}
			}
		}
	}
	if !slices.Equal(memory, before) {
		t.Errorf("the operands are now %v", memory)
	}
}
