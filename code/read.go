package code

import "abacus/api"

const (
	maxNumber = 1<<31 - 1 // that bytes can tell
	maxDigits = 5         // of a number
)

// reader goes through bytes from the left, up to the first fault.
type reader struct {
	b     []byte
	at    int // the place that is read next
	wrong bool
	place int // of the fault
}

// refuse notes a fault, if it is the first one; behind it nothing is read.
func (r *reader) refuse(place int) {
	if !r.wrong {
		r.wrong, r.place = true, place
	}
}

// left is how many bytes are still to be read.
func (r *reader) left() int { return len(r.b) - r.at }

// take is the next bytes, so many; none behind a fault, or where they are not all there.
func (r *reader) take(count int) []byte {
	if count > r.left() {
		r.refuse(len(r.b))
	}
	if r.wrong {
		return nil
	}
	r.at += count
	return r.b[r.at-count : r.at]
}

// next is the next byte; 0 if there is none.
func (r *reader) next() byte {
	taken := r.take(1)
	if len(taken) == 0 {
		return 0
	}
	return taken[0]
}

// mark reads the bytes with which every code begins.
func (r *reader) mark() {
	for i := range len(mark) {
		if r.next() != mark[i] {
			r.refuse(i)
		}
	}
}

// number reads a number in base 128; it is 0 if there is a fault.
func (r *reader) number() int {
	first := r.at
	n := uint64(0)
	for i := range maxDigits {
		c := r.next()
		n += uint64(c%base) << (7 * i)
		if c >= base {
			continue
		}
		if c == 0 && i > 0 || n > maxNumber {
			r.refuse(first)
		}
		if r.wrong {
			return 0
		}
		return int(n)
	}
	r.refuse(first)
	return 0
}

// doubles reads how many doubles there are, and each of them.
func (r *reader) doubles() []uint64 {
	bytes := r.take(8 * r.number())
	list := make([]uint64, len(bytes)/8)
	for i, c := range bytes {
		list[i/8] |= uint64(c) << (i % 8 * 8)
	}
	return list
}

// texts reads how many texts there are, and each with its length.
func (r *reader) texts() []string {
	count := r.number()
	// Each takes a byte at least, so that a count alone makes no more room than there are bytes.
	list := make([]string, 0, min(count, r.left()))
	for len(list) < count && !r.wrong {
		list = append(list, string(r.take(r.number())))
	}
	return list
}

// instrs reads how many instructions there are, and each with the fields that its word has. Those that stand behind one too many are read, but not kept.
func (r *reader) instrs() []api.Instr {
	t := words()
	count := r.number()
	list := make([]api.Instr, 0, min(count, r.left(), api.MaxCode+1))
	for i := 0; i < count && !r.wrong; i++ {
		in := r.instr(&t)
		if len(list) <= api.MaxCode {
			list = append(list, in)
		}
	}
	return list
}

// instr reads one instruction.
func (r *reader) instr(t *table) api.Instr {
	first := r.at
	in := api.Instr{Word: int(r.next())}
	if !isWord(in.Word) {
		r.refuse(first)
		return api.Instr{}
	}
	if t[in.Word].a != nothing {
		in.A = r.number()
	}
	if t[in.Word].b != nothing {
		in.B = r.number()
	}
	return in
}
