package relate

// heap is a list in which the element at i stands above those at 2i+1 and 2i+2, and none is ahead of the one above it: so the first of all is at 0.
type heap[T any] struct {
	list  []T
	ahead func(a T, b T) bool
}

// push puts x in.
func (h *heap[T]) push(x T) {
	h.list = append(h.list, x)
	h.up(len(h.list) - 1)
}

// pop takes out the first; there must be one.
func (h *heap[T]) pop() T {
	first, last := h.list[0], len(h.list)-1
	h.list[0] = h.list[last]
	clear(h.list[last:]) // what is taken out isn't kept in the spare room
	h.list = h.list[:last]
	h.down(0)
	return first
}

// up lifts the element at i till it isn't ahead of the one above it.
func (h *heap[T]) up(i int) {
	for i > 0 {
		above := (i - 1) / 2
		if !h.ahead(h.list[i], h.list[above]) {
			return
		}
		h.swap(i, above)
		i = above
	}
}

// down lowers the element at i till none below is ahead of it.
func (h *heap[T]) down(i int) {
	for {
		first := i
		for below := 2*i + 1; below <= 2*i+2 && below < len(h.list); below++ {
			if h.ahead(h.list[below], h.list[first]) {
				first = below
			}
		}
		if first == i {
			return
		}
		h.swap(i, first)
		i = first
	}
}

func (h *heap[T]) swap(i int, j int) { h.list[i], h.list[j] = h.list[j], h.list[i] }
