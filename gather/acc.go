package gather

import (
	"math/bits"

	"abacus/api"
	"abacus/ieee"
	"abacus/nat"
)

// Acc adds up without loss.
type Acc struct {
	strange
	count int
	zeros int  // addends that are zeros with the sign minus
	above pile // the addends above 0
	below pile // those below 0, their sign left out
}

// New: an Acc that holds nothing.
func New() *Acc { return &Acc{} }

// Add adds d.
func (a *Acc) Add(d uint64) {
	a.AddProduct(d, api.One) // the product with 1 is d in all that counts: its value, its sign, and what is no number
}

// AddProduct adds x * y, unrounded.
func (a *Acc) AddProduct(x uint64, y uint64) {
	if a == nil || a.count >= api.MaxAddends {
		return
	}
	a.count++
	p, q := ieee.Decode(x), ieee.Decode(y)
	neg := p.Neg != q.Neg
	switch {
	case a.note(p.Class, q.Class, neg):
	case p.Mant == 0 || q.Mant == 0:
		if neg {
			a.zeros++
		}
	default:
		high, low := bits.Mul64(p.Mant, q.Mant)
		a.side(neg).add(high, low, p.Exp+q.Exp-lowest)
	}
}

// Merge adds what b holds.
func (a *Acc) Merge(b *Acc) {
	if a == nil || b == nil || a.count+b.count > api.MaxAddends {
		return
	}
	a.join(b.strange)
	a.count += b.count
	a.zeros += b.zeros
	a.above.join(&b.above)
	a.below.join(&b.below)
}

// Count: how many addends there were.
func (a *Acc) Count() int {
	if a == nil {
		return 0
	}
	return a.count
}

// Value: the double nearest to what it holds.
func (a *Acc) Value() uint64 {
	if a == nil {
		return 0
	}
	return a.over(1)
}

// Mean: the double nearest to what it holds divided by Count; ErrNone.
func (a *Acc) Mean() (uint64, api.Errno) {
	if a == nil {
		return 0, api.ErrState
	}
	if a.count == 0 {
		return 0, api.ErrNone
	}
	return a.over(a.count), api.OK
}

// Copy: another Acc that holds the same.
func (a *Acc) Copy() *Acc {
	if a == nil {
		return nil
	}
	b := *a
	return &b
}

// Reset: holds nothing again.
func (a *Acc) Reset() {
	if a != nil {
		*a = Acc{}
	}
}

func (a *Acc) addAll(ds []uint64) {
	for _, d := range ds {
		a.Add(d)
	}
}

// side is where addends of that sign are piled up.
func (a *Acc) side(neg bool) *pile {
	if neg {
		return &a.below
	}
	return &a.above
}

// over is what the addends sum up to, divided by n ahead of the rounding.
func (a *Acc) over(n int) uint64 {
	if d, told := a.verdict(); told {
		return d
	}
	neg, s := a.sum()
	if len(s) == 0 {
		return a.nothing()
	}
	d, _ := ieee.RoundRatio(neg, s, nat.FromUint(uint64(n)), lowest)
	return d
}

// nothing is the zero of addends that sum up to 0.
func (a *Acc) nothing() uint64 {
	if a.count > 0 && a.zeros == a.count {
		return api.Sign
	}
	return 0
}

// sum is the exact sum of the finite addends, counted in 2^lowest: whether it is below 0, and how much it is.
func (a *Acc) sum() (bool, []uint64) {
	neg := nat.Cmp(a.above[:], a.below[:]) < 0
	n, _ := nat.Sub(a.side(neg)[:], a.side(!neg)[:])
	return neg, n
}
