package relate

import (
	"abacus/api"
	"abacus/value"
)

// Queue hands out the least value first, the earliest of equals.
type Queue struct {
	waiting *heap[entry] // nil in a queue that NewQueue didn't make, which then does as a nil one
	pushed  int
}

// entry is a value that waits, with its rank and number.
type entry struct {
	ticket
	val api.Value
}

// NewQueue: an empty queue.
func NewQueue() *Queue {
	ahead := func(a entry, b entry) bool { return a.against(b.ticket) < 0 }
	return &Queue{waiting: &heap[entry]{ahead: ahead}}
}

// Push: puts v in; answers its number (0, 1, 2 .. as they come).
func (q *Queue) Push(v api.Value) int {
	if !q.made() {
		return 0
	}
	own := value.Plain(v) // a copy: the caller's text isn't kept
	number := q.pushed
	q.pushed++
	q.waiting.push(entry{ticket{rankOf(own), number}, own})
	return number
}

// Pop: takes the least out: the value, its number; false if there is none.
func (q *Queue) Pop() (api.Value, int, bool) {
	if q.Len() == 0 {
		return api.Value{}, 0, false
	}
	first := q.waiting.pop()
	return first.val, first.number, true
}

// Peek: likewise, but leaves it in.
func (q *Queue) Peek() (api.Value, int, bool) {
	if q.Len() == 0 {
		return api.Value{}, 0, false
	}
	first := q.waiting.list[0]
	return value.Plain(first.val), first.number, true // a copy, since the queue keeps its own
}

// Len: how many are in.
func (q *Queue) Len() int {
	if !q.made() {
		return 0
	}
	return len(q.waiting.list)
}

func (q *Queue) made() bool { return q != nil && q.waiting != nil }
