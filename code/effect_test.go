package code_test

import (
	"testing"

	"abacus/api"
	"abacus/code"
)

// holdEffect: whether Effect answers as it must.
func holdEffect(t *testing.T, i api.Instr) bool {
	t.Helper()
	takes, puts, ok := code.Effect(i)
	a, b, right := effect(i)
	if takes != a || puts != b || ok != right {
		t.Fatalf("Effect(%+v) = %d, %d, %v, want %d, %d, %v", i, takes, puts, ok, a, b, right)
	}
	return ok
}

// P26.1: the document's examples.
func TestEffectExamples(t *testing.T) {
	for _, c := range []struct {
		i           api.Instr
		takes, puts int
		ok          bool
	}{
		{in{Word: api.InNum, A: 3}, 0, 1, true}, {in{Word: api.InBin, A: 7}, 0, 0, false}, {in{Word: api.InPop, A: 1}, 0, 0, false}, {in{Word: api.InCall, A: api.FnSubstr, B: 3}, 3, 1, true}, {in{Word: api.InKey, A: 4}, 4, 1, true}, {in{Word: api.InJump}, 0, 0, false},
		{in{Word: api.InPop}, 1, 0, true}, {in{Word: api.InSubElem, A: 63, B: api.FnSub}, 3, 1, true}, {in{Word: api.InSetField}, 2, 1, true}, {in{Word: api.InIf, A: 1}, 1, 0, true},
	} {
		if takes, puts, ok := code.Effect(c.i); takes != c.takes || puts != c.puts || ok != c.ok {
			t.Errorf("Effect(%+v) = %d, %d, %v, want %d, %d, %v", c.i, takes, puts, ok, c.takes, c.puts, c.ok)
		}
		holdEffect(t, c.i)
	}
}

// P26.1: every word, and numbers that are none, with both fields about all the ends that the table has, and about those of an int.
func TestEffectFields(t *testing.T) {
	var ends []int
	for i := -3; i <= 16; i++ {
		ends = append(ends, i)
	}
	for _, end := range []int{63, 255, 32768, 131072, 1 << 31, 1 << 32, 1<<32 + 1, 1 << 33, -1 << 32, -1<<32 + 1} {
		ends = append(ends, end-1, end, end+1)
	}
	ends = append(ends, minInt, minInt+1, maxInt-1, maxInt)
	words := []int{minInt, maxInt, 1 << 32, 1<<32 + 1, 256 + api.InPop, -api.InPop}
	for word := -3; word <= 40; word++ {
		words = append(words, word)
	}
	right := make(map[int]int)
	for _, word := range words {
		for _, a := range ends {
			for _, b := range ends {
				if holdEffect(t, in{Word: word, A: a, B: b}) {
					right[word]++
				}
			}
		}
	}
	if len(right) != 33 {
		t.Errorf("%d words had instructions that are right, want 33", len(right))
	}
}

// P26.1: each field alone, at all numbers up to beyond the ends.
func TestEffectAllNumbers(t *testing.T) {
	for word := range 35 {
		for x := -10; x < 32800; x++ {
			holdEffect(t, in{Word: word, A: x})
			for _, a := range []int{1, 2, 3, 4, 5, 6, 9, 12, 13} {
				holdEffect(t, in{Word: word, A: a, B: x})
			}
		}
	}
}
