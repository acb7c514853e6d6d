package ieee_test

import (
	"math"
	"math/big"
	"testing"

	"abacus/api"
	"abacus/ieee"
)

const infRank = 9218868437227405312

// isNaN: whether d is a NaN.
func isNaN(d uint64) bool { return d&^minus > api.Inf }

// valued: a double that is no NaN, as a multiple of 2^-1074; an infinity counts as 2^1024.
func valued(d uint64) *big.Int {
	n := units(d &^ minus)
	if d&minus != 0 {
		n.Neg(n)
	}
	return n
}

// P4.4: Compare goes by value, both zeros alike, the infinities beyond all else; a NaN is not compared.
func TestCompare(t *testing.T) {
	for _, c := range []struct {
		a, b uint64
		want int
		ok   bool
	}{
		{0, minus, 0, true}, {minus, 0, 0, true}, {minus, minus, 0, true}, {minus, 1, -1, true}, {0, minus | 1, 1, true},
		{api.Inf | minus, 1, -1, true}, {api.Inf, api.Most, 1, true}, {api.Inf, api.Inf, 0, true}, {api.Inf | minus, api.Inf | minus, 0, true},
		{api.Inf | minus, api.Most | minus, -1, true}, {api.Inf | minus, api.Inf, -1, true}, {minus | 2, minus | 1, -1, true}, {2, 1, 1, true},
		{api.NaN, api.NaN, 0, false}, {api.NaN, api.One, 0, false}, {api.Inf, api.Inf + 1, 0, false}, {top, api.Inf | minus, 0, false},
	} {
		if got, ok := ieee.Compare(c.a, c.b); got != c.want || ok != c.ok {
			t.Errorf("Compare(%016x, %016x) = %d, %v; want %d, %v", c.a, c.b, got, ok, c.want, c.ok)
		}
	}
	list := doubles()
	for i, a := range list {
		for j := i % 7; j < len(list); j += 7 {
			b := list[j]
			want, ok := 0, !isNaN(a) && !isNaN(b)
			if ok {
				want = valued(a).Cmp(valued(b))
			}
			if got, gotOK := ieee.Compare(a, b); got != want || gotOK != ok {
				t.Errorf("Compare(%016x, %016x) = %d, %v; want %d, %v", a, b, got, gotOK, want, ok)
			}
		}
	}
}

// P4.4: Total's order, laid out from its first pattern to its last.
func TestTotal(t *testing.T) {
	row := []uint64{
		0xffffffffffffffff, 0xfffffffffffffffe, 0xfff8000000000001, 0xfff8000000000000, 0xfff7ffffffffffff, 0xfff0000000000001, // -NaN, the greater payload first
		0xfff0000000000000, 0xffefffffffffffff, 0xc000000000000000, 0xbff8000000000000, 0xbff0000000000000, 0x8010000000000000, 0x800fffffffffffff, 0x8000000000000002, 0x8000000000000001,
		0x8000000000000000, 0,
		1, 2, 0x000fffffffffffff, 0x0010000000000000, 0x3ff0000000000000, 0x3ff8000000000000, 0x4000000000000000, 0x7fefffffffffffff, 0x7ff0000000000000,
		0x7ff0000000000001, 0x7ff7ffffffffffff, 0x7ff8000000000000, 0x7ff8000000000001, 0x7ffffffffffffffe, 0x7fffffffffffffff,
	}
	for i, a := range row {
		for j, b := range row {
			want := 0
			if i < j {
				want = -1
			} else if i > j {
				want = 1
			}
			if got := ieee.Total(a, b); got != want {
				t.Errorf("Total(%016x, %016x) = %d, want %d", a, b, got, want)
			}
		}
	}
}

// P4.4: where values differ, Total goes by value; every two patterns are told apart.
func TestTotalByValue(t *testing.T) {
	list := doubles()
	for i, a := range list {
		for j := i % 5; j < len(list); j += 5 {
			b := list[j]
			got := ieee.Total(a, b)
			if (got == 0) != (a == b) || got != -ieee.Total(b, a) {
				t.Errorf("Total(%016x, %016x) = %d", a, b, got)
			}
			if isNaN(a) || isNaN(b) {
				continue
			}
			if c := valued(a).Cmp(valued(b)); c != 0 && c != got {
				t.Errorf("Total(%016x, %016x) = %d, want %d", a, b, got, c)
			}
		}
	}
}

// P4.4: Rank counts the doubles from 0 on, AtRank goes back.
func TestRank(t *testing.T) {
	for d, want := range map[uint64]int64{
		0: 0, minus: 0, 1: 1, 2: 2, minus | 1: -1, minus | 2: -2, 1 << 52: 1 << 52, minus | 1<<52: -1 << 52,
		api.One: 0x3ff0000000000000, api.Most: infRank - 1, api.Most | minus: -infRank + 1, api.Inf: infRank, api.Inf | minus: -infRank,
	} {
		if r, ok := ieee.Rank(d); r != want || !ok {
			t.Errorf("Rank(%016x) = %d, %v; want %d", d, r, ok, want)
		}
	}
	for _, d := range doubles() {
		r, ok := ieee.Rank(d)
		if isNaN(d) {
			if r != 0 || ok {
				t.Errorf("Rank(%016x) = %d, %v; want 0, false", d, r, ok)
			}
			continue
		}
		want := d
		if d == minus {
			want = 0
		}
		if back, there := ieee.AtRank(r); !ok || back != want || !there {
			t.Errorf("AtRank(Rank(%016x)) = %016x, %v", d, back, there)
		}
		if up, _ := ieee.Rank(ieee.Up(d)); d != api.Inf && up != r+1 {
			t.Errorf("Rank(%016x) = %d, that of the next one %d", d, r, up)
		}
	}
}

// P4.4: AtRank, at and beyond the infinities.
func TestAtRank(t *testing.T) {
	for i, want := range map[int64]uint64{0: 0, 1: 1, -1: minus | 1, infRank: api.Inf, -infRank: api.Inf | minus, infRank - 1: api.Most, 1 - infRank: api.Most | minus} {
		if d, ok := ieee.AtRank(i); d != want || !ok {
			t.Errorf("AtRank(%d) = %016x, %v; want %016x", i, d, ok, want)
		}
	}
	for _, i := range []int64{infRank + 1, -infRank - 1, infRank + 2, maxInt, maxInt - 1, minInt, minInt + 1} {
		if d, ok := ieee.AtRank(i); d != 0 || ok {
			t.Errorf("AtRank(%d) = %016x, %v; want 0, false", i, d, ok)
		}
	}
}

// P4.5: Up and Down at the edges that the chapter names.
func TestNeighbours(t *testing.T) {
	for _, c := range [][2]uint64{
		{0, 1}, {minus, 1}, {minus | 1, minus}, {1, 2}, {minus | 2, minus | 1}, {1<<52 - 1, 1 << 52}, {minus | 1<<52, minus | 1<<52 - 1},
		{api.Most, api.Inf}, {api.Inf, api.Inf}, {api.Inf | minus, api.Most | minus}, {0x3fefffffffffffff, api.One}, {0xbff0000000000000, 0xbfefffffffffffff},
	} {
		if got := ieee.Up(c[0]); got != c[1] {
			t.Errorf("Up(%016x) = %016x, want %016x", c[0], got, c[1])
		}
		if got := ieee.Down(c[0] ^ minus); got != c[1]^minus {
			t.Errorf("Down(%016x) = %016x, want %016x", c[0]^minus, got, c[1]^minus)
		}
	}
	for _, d := range nans() {
		if up, down := ieee.Up(d), ieee.Down(d); up != api.NaN || down != api.NaN {
			t.Errorf("Up and Down of the NaN %016x: %016x, %016x", d, up, down)
		}
	}
}

// P4.5: Up is the next double above, Down the next below, by another arithmetic.
func TestNeighboursByValue(t *testing.T) {
	for _, d := range doubles() {
		if isNaN(d) {
			continue
		}
		x := math.Float64frombits(d)
		if got, want := ieee.Up(d), math.Float64bits(math.Nextafter(x, math.Inf(1))); got != want {
			t.Errorf("Up(%016x) = %016x, want %016x", d, got, want)
		}
		if got, want := ieee.Down(d), math.Float64bits(math.Nextafter(x, math.Inf(-1))); got != want {
			t.Errorf("Down(%016x) = %016x, want %016x", d, got, want)
		}
	}
}
