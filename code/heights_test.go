package code_test

import (
	"slices"
	"testing"

	"abacus/api"
	"abacus/code"
)

var (
	variable = in{Word: api.InVar, A: 9}
	pop      = in{Word: api.InPop}
	neg      = in{Word: api.InNeg}
	cat      = in{Word: api.InCat}
)

func jump(place int) in  { return in{Word: api.InJump, A: place} }
func ifNot(place int) in { return in{Word: api.InIfNot, A: place} }
func ifSo(place int) in  { return in{Word: api.InIf, A: place} }

// P26.2, P26.3: the document's examples, and ordinary codes.
func TestHeightsExamples(t *testing.T) {
	num := in{Word: api.InNum}
	for _, c := range []struct {
		ops  []in
		nums []uint64
		want []int
		at   int
		e    api.Errno
	}{
		{[]in{variable, num, {Word: api.InBin, A: api.OpAdd}}, []uint64{api.One}, []int{0, 1, 2, 1}, 0, api.OK},
		{[]in{variable, ifNot(5), {Word: api.InVar, A: 10}, {Word: api.InTruth}, jump(6), num}, []uint64{0}, []int{0, 1, 0, 1, 1, 0, 1}, 0, api.OK},
		{nil, nil, nil, 0, api.ErrCode},
		{[]in{num}, nil, nil, 0, api.ErrCode},
		{[]in{variable, variable}, nil, nil, 2, api.ErrCode},
		{[]in{pop}, nil, nil, 0, api.ErrCode},
		{[]in{variable, ifSo(3), variable}, nil, nil, 2, api.ErrCode},
		{[]in{variable, jump(3), pop}, nil, []int{0, 1, -1, 1}, 0, api.OK},
		{[]in{jump(0)}, nil, nil, 0, api.ErrCode},
		{[]in{jump(2)}, nil, nil, 0, api.ErrCode},
		// A jump by one place is one way; ifs too.
		{[]in{variable, jump(2)}, nil, []int{0, 1, 1}, 0, api.OK},
		{[]in{variable, ifSo(2), variable}, nil, []int{0, 1, 0, 1}, 0, api.OK},
		{[]in{variable, ifNot(2), variable}, nil, []int{0, 1, 0, 1}, 0, api.OK},
		// What isn't reached must be right, but not fit: neither its takings nor its ways count.
		{[]in{variable, jump(4), cat, cat}, nil, []int{0, 1, -1, -1, 1}, 0, api.OK},
		{[]in{variable, jump(4), cat, ifSo(4)}, nil, []int{0, 1, -1, -1, 1}, 0, api.OK},
		{[]in{variable, jump(4), num, pop}, nil, nil, 2, api.ErrCode},
		{[]in{variable, jump(4), jump(2), pop}, nil, nil, 2, api.ErrCode},
		{[]in{variable, jump(4), jump(5), pop}, nil, nil, 2, api.ErrCode},
		{[]in{jump(2), variable, variable}, nil, []int{0, -1, 0, 1}, 0, api.OK},
		// One that isn't right comes ahead of one that isn't fit, wherever it stands.
		{[]in{pop, pop, {}}, nil, nil, 2, api.ErrCode},
		{[]in{pop, jump(1)}, nil, nil, 1, api.ErrCode},
		// The end: not reached is none, since the last one that is reached goes on to a place; two values; the same height from two sides.
		{[]in{variable, variable, variable}, nil, nil, 3, api.ErrCode},
		{[]in{variable, pop}, nil, nil, 2, api.ErrCode},
		{[]in{jump(1)}, nil, nil, 1, api.ErrCode},
		{[]in{variable, ifSo(4), variable, jump(5), variable}, nil, []int{0, 1, 0, 1, 0, 1}, 0, api.OK},
		// The fault lies with the higher of two that disagree.
		{[]in{variable, ifSo(4), variable, variable, variable}, nil, nil, 3, api.ErrCode},
		{[]in{variable, ifSo(3), jump(5), variable, variable}, nil, nil, 4, api.ErrCode},
		{[]in{variable, variable, ifSo(4), pop}, nil, nil, 3, api.ErrCode},
	} {
		code1 := api.Code{Ops: c.ops, Nums: c.nums}
		got, at, e := code.Heights(code1)
		if !slices.Equal(got, c.want) || at != c.at || e != c.e {
			t.Errorf("Heights(%v) = %v, %d, %d, want %v, %d, %d", c.ops, got, at, e, c.want, c.at, c.e)
		}
		hold(t, code1)
	}
}

// P26.2, P26.3: every short code of instructions that take, put and jump, to right places and to wrong ones.
func TestHeightsShort(t *testing.T) {
	fine := 0
	for _, c := range []struct{ most, one int }{{4, 0}, {5, api.InIf}, {5, api.InIfNot}} {
		for n := range c.most + 1 {
			alphabet := []in{variable, pop, cat}
			for place := range n + 2 {
				alphabet = append(alphabet, jump(place))
				if c.one == 0 {
					alphabet = append(alphabet, ifSo(place), ifNot(place))
				} else if place > 0 && place <= n {
					alphabet = append(alphabet, in{Word: c.one, A: place})
				}
			}
			each(alphabet, n, func(ops []in) {
				if hold(t, api.Code{Ops: ops}) == api.OK {
					fine++
				}
			})
		}
	}
	if fine < 1000 {
		t.Errorf("only %d of the short codes were good", fine)
	}
}

// each: all lists of so many of an alphabet.
func each[T any](alphabet []T, count int, call func([]T)) {
	list := make([]T, count)
	var fill func(int)
	fill = func(i int) {
		if i == count {
			call(list)
			return
		}
		for _, one := range alphabet {
			list[i] = one
			fill(i + 1)
		}
	}
	fill(0)
}

// P26.2, P26.3: drawn good codes, as they are and with instructions changed, left out, put in or swapped, or with shorter lists.
func TestHeightsDrawn(t *testing.T) {
	seed := uint64(261)
	fine := 0
	for range 60000 {
		c := drawCode(&seed, between(&seed, 0, 5))
		if hold(t, c) != api.OK {
			t.Fatalf("a drawn code is refused: %s", brief(c))
		}
		for range between(&seed, 1, 3) {
			c = changed(&seed, c)
			if hold(t, c) == api.OK {
				fine++
			}
		}
	}
	if fine < 5000 {
		t.Errorf("only %d of the changed codes were good", fine)
	}
}

// changed: a code with one thing changed.
func changed(seed *uint64, c api.Code) api.Code {
	c = api.Code{Ops: slices.Clone(c.Ops), Nums: c.Nums, Strs: c.Strs}
	if len(c.Ops) == 0 {
		return c
	}
	i, j := between(seed, 0, len(c.Ops)-1), between(seed, 0, len(c.Ops)-1)
	switch between(seed, 0, 8) {
	case 0:
		c.Ops[i].Word = between(seed, 0, 34)
	case 1:
		c.Ops[i].A = pick(seed, -1, 0, 1, 6, 7, 63, 64, i, i+1, len(c.Ops), len(c.Ops)+1, len(c.Nums), len(c.Strs), c.Ops[i].A+1, maxInt)
	case 2:
		c.Ops[i].B += pick(seed, -1, 1)
	case 3:
		c.Ops = slices.Insert(c.Ops, i, c.Ops[j])
	case 4:
		c.Ops = slices.Delete(c.Ops, i, i+1)
	case 5:
		c.Ops[i], c.Ops[j] = c.Ops[j], c.Ops[i]
	case 6:
		c.Nums = c.Nums[:between(seed, 0, len(c.Nums))]
	case 7:
		c.Strs = c.Strs[:between(seed, 0, len(c.Strs))]
	default:
		c.Ops[i] = pick(seed, jump(between(seed, i+1, len(c.Ops))), ifSo(between(seed, i+1, len(c.Ops))), pop, variable)
	}
	return c
}

// chain: a good code of so many instructions, more than none.
func chain(count int) api.Code {
	return api.Code{Ops: append([]in{variable}, slices.Repeat([]in{neg}, count-1)...)}
}

// P26.2, P26.3: so many instructions as may be, and more, whatever they are.
func TestHeightsOfTheMost(t *testing.T) {
	for _, c := range []struct {
		what string
		c    api.Code
		at   int
		e    api.Errno
	}{
		{"the most", chain(maxCode), 0, api.OK}, {"one more", chain(maxCode + 1), maxCode, api.ErrCode}, {"many more", chain(1 << 20), maxCode, api.ErrCode},
		{"one more, not right", api.Code{Ops: make([]in, maxCode+1)}, maxCode, api.ErrCode}, {"the most, not right", api.Code{Ops: make([]in, maxCode)}, 0, api.ErrCode},
		{"the last not right", api.Code{Ops: append(chain(maxCode-1).Ops, in{})}, maxCode - 1, api.ErrCode}, {"the last not fit", api.Code{Ops: append(chain(maxCode-1).Ops, cat)}, maxCode - 1, api.ErrCode},
		{"a jump over all", api.Code{Ops: slices.Concat([]in{variable, jump(maxCode)}, slices.Repeat([]in{cat}, maxCode-2))}, 0, api.OK},
		{"a jump beyond", api.Code{Ops: slices.Concat([]in{variable, jump(maxCode + 1)}, slices.Repeat([]in{cat}, maxCode-2))}, 1, api.ErrCode},
	} {
		if m, at, e := code.Check(c.c); at != c.at || e != c.e || (m == 1) != (e == api.OK) {
			t.Errorf("%s: %d, %d, %d, want place %d and %d", c.what, m, at, e, c.at, c.e)
		}
		hold(t, c.c)
	}
}

// P26.2, P26.3: the highest stack, and one value more, at the place where it is put.
func TestHeightsOfTheHighest(t *testing.T) {
	tall := func(count int, behind ...in) api.Code {
		return api.Code{Ops: append(slices.Repeat([]in{variable}, count), behind...)}
	}
	for _, c := range []struct {
		what    string
		c       api.Code
		most    int
		at      int
		e       api.Errno
		heights int
	}{
		{"a key of the most", tall(maxStack, in{Word: api.InKey, A: maxStack}), maxStack, 0, api.OK, maxStack + 2},
		{"a sum of the most", tall(maxStack, in{Word: api.InCall, A: api.FnSum, B: maxStack}), maxStack, 0, api.OK, maxStack + 2},
		{"a step at the top", tall(maxStack, neg, in{Word: api.InCall, A: api.FnSprintf, B: maxStack}), maxStack, 0, api.OK, maxStack + 3},
		{"one more", tall(maxStack+1, in{Word: api.InKey, A: maxStack}, cat), 0, maxStack, api.ErrCode, 0},
		{"one more at the end", tall(maxStack + 1), 0, maxStack, api.ErrCode, 0},
		{"all at the end", tall(maxStack), 0, maxStack, api.ErrCode, 0},
		{"too few", tall(maxStack-1, in{Word: api.InKey, A: maxStack}), 0, maxStack - 1, api.ErrCode, 0},
		{"too many for a key", tall(maxStack, in{Word: api.InKey, A: maxStack + 1}), 0, maxStack, api.ErrCode, 0},
		{"one left", tall(maxStack, in{Word: api.InKey, A: maxStack - 1}), 0, maxStack + 1, api.ErrCode, 0},
	} {
		if m, at, e := code.Check(c.c); m != c.most || at != c.at || e != c.e {
			t.Errorf("%s: Check = %d, %d, %d, want %d, %d, %d", c.what, m, at, e, c.most, c.at, c.e)
		}
		if h, at, e := code.Heights(c.c); len(h) != c.heights || at != c.at || e != c.e {
			t.Errorf("%s: Heights = %d of them, %d, %d, want %d, %d, %d", c.what, len(h), at, e, c.heights, c.at, c.e)
		}
		hold(t, c.c)
	}
}

// P26.2: places in the lists, to the last and one more.
func TestHeightsPlaces(t *testing.T) {
	for count := range 5 {
		for a := -2; a < 7; a++ {
			for _, word := range []int{api.InNum, api.InStr} {
				c := api.Code{Ops: []in{{Word: word, A: a}}, Nums: make([]uint64, count), Strs: make([]string, 4-count)}
				want := api.ErrCode
				if a >= 0 && (word == api.InNum && a < count || word == api.InStr && a < 4-count) {
					want = api.OK
				}
				if _, at, e := code.Heights(c); at != 0 || e != want {
					t.Errorf("word %d, place %d of %d: %d, %d, want %d", word, a, count, at, e, want)
				}
				hold(t, c)
			}
		}
	}
}
