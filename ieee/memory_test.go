package ieee_test

import (
	"slices"
	"testing"

	"abacus/api"
	"abacus/ieee"
)

// roomy: a list with spare room behind it, and all of the memory that it lies in.
func roomy(a []uint64) ([]uint64, []uint64) {
	memory := append(slices.Clone(a), 0xabc, 0xdef, top, 1, 2, 3)
	return memory[:len(a)], memory
}

// P4.11: naturals that are handed in stay as they are, their spare room too; the same arguments give the same answer.
func TestOperandsStay(t *testing.T) {
	seed := uint64(5)
	lists := append(zeros(), []uint64{1}, []uint64{top, 0}, []uint64{1, 0, 1}, random(&seed, 20), under(random(&seed, 3), 2), fill(api.MaxLimbs, top), two(maxBits-1), two(maxBits))
	for _, x := range lists {
		for _, y := range lists {
			n, memoryN := roomy(x)
			d, memoryD := roomy(y)
			beforeN, beforeD := slices.Clone(memoryN), slices.Clone(memoryD)
			for _, exp := range []int{0, 70, -1070, minInt} {
				first, e := ieee.Round(true, n, exp, true)
				second, f := ieee.Round(true, n, exp, true)
				if first != second || e != f {
					t.Errorf("Round answers two things: %x, %x", first, second)
				}
				first, e = ieee.RoundRatio(true, n, d, exp)
				second, f = ieee.RoundRatio(true, n, d, exp)
				if first != second || e != f {
					t.Errorf("RoundRatio answers two things: %x, %x", first, second)
				}
			}
			if !slices.Equal(memoryN, beforeN) || !slices.Equal(memoryD, beforeD) {
				t.Fatalf("an operand was changed: %x, %x", brief(x), brief(y))
			}
		}
	}
}

// P4.11: the natural that Whole answers is new memory, its spare room too.
func TestWholeIsNew(t *testing.T) {
	for _, d := range positives() {
		_, first, _ := ieee.Whole(d)
		want := slices.Clone(first)
		_, second, _ := ieee.Whole(d)
		for i := range first[:cap(first)] {
			first[:cap(first)][i] = 0x5c5c5c5c
		}
		if !slices.Equal(second, want) {
			t.Fatalf("two answers of Whole(%016x) share memory", d)
		}
		if _, third, _ := ieee.Whole(d); !slices.Equal(third, want) {
			t.Fatalf("an answer of Whole(%016x) hangs on an earlier one's memory", d)
		}
	}
}
