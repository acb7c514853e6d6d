package gather

import "math/bits"

const (
	lowest   = 2 * -1074   // what the last bit of the least product counts, as a power of two
	highest  = 2*1024 + 40 // MaxAddends addends together are below that power of two
	limbBits = 64
	limbs    = (highest - lowest + limbBits - 1) / limbBits
)

// pile is a natural, counted in 2^lowest: wide enough for as many addends as an Acc takes, so that no carry leaves it. Being an array, it is copied with the Acc that it is a part of.
type pile [limbs]uint64

// add adds high * 2^64 + low, moved up by place bits.
func (p *pile) add(high uint64, low uint64, place int) {
	i, turn := place/limbBits, uint(place%limbBits)
	var carry uint64
	p[i], carry = bits.Add64(p[i], low<<turn, 0)
	p[i+1], carry = bits.Add64(p[i+1], high<<turn|low>>(limbBits-turn), carry)
	p[i+2], carry = bits.Add64(p[i+2], high>>(limbBits-turn), carry)
	for i += 3; carry > 0; i++ {
		p[i], carry = bits.Add64(p[i], 0, carry)
	}
}

// join adds q, which may be p itself.
func (p *pile) join(q *pile) {
	var carry uint64
	for i := range p {
		p[i], carry = bits.Add64(p[i], q[i], carry)
	}
}
